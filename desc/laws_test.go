package desc

import (
	"fmt"
	"math"
	"slices"
	"testing"

	"padstone/api"
	"padstone/tx"
	"padstone/view"
	"padstone/word"
)

// dice are numbers from a short rule: the same ones in each run.
type dice uint64

func (d *dice) roll(n int) int {
	*d = *d*6364136223846793005 + 1442695040888963407
	return int(uint64(*d) >> 33 % uint64(n))
}

// The chapter's words once more: cells as a list, and for each entry whether
// it was reserved, and whether it was released.

// room is what a store is to have.
type room struct {
	cells []api.Cell
	limit uint32
}

// other is what a descriptor is to be.
type other struct {
	mark     int
	entries  []tx.Entry
	status   int
	reserved []bool
	released []bool
}

func newOther(mark int, l []tx.Entry) *other {
	return &other{mark, slices.Clone(l), Open, make([]bool, len(l)), make([]bool, len(l))}
}

func (o *other) over() bool { return o.status != Open && !slices.Contains(o.released, false) }

// step is what a step is to do.
func (r *room) step(o *other) int {
	if o.over() {
		return 0
	}
	i := slices.Index(o.reserved, false)
	switch {
	case o.status != Open:
		i = slices.Index(o.released, false)
		o.released[i] = true
		r.release(o, o.entries[i])
	case i < 0:
		o.status = Done
	default:
		return r.reserve(o, i)
	}
	return 0
}

// reserve looks at the next entry's cell.
func (r *room) reserve(o *other, i int) int {
	e := o.entries[i]
	if e.Cell < 0 || e.Cell >= len(r.cells) {
		o.status = Failed
		return 0
	}
	c := &r.cells[e.Cell]
	if c.Mark != 0 && c.Mark != o.mark {
		return c.Mark
	}
	if c.Version != e.Version {
		o.status = Failed
	} else if e.Write && c.Version == r.limit {
		o.status = Spent
	} else if o.mark < 1 {
		o.status = Failed
	} else {
		c.Mark, o.reserved[i] = o.mark, true
	}
	return 0
}

// release puts an entry's cell, or releases it.
func (r *room) release(o *other, e tx.Entry) {
	if e.Cell < 0 || e.Cell >= len(r.cells) || o.mark < 1 {
		return
	}
	c := &r.cells[e.Cell]
	switch {
	case c.Mark != o.mark:
	case o.status != Done || !e.Write:
		c.Mark = 0
	case c.Version != r.limit:
		*c = api.Cell{Value: e.New, Version: c.Version + 1}
	}
}

// agree holds a store against what it is to have.
func agree(t *testing.T, s *word.Store, r *room) {
	t.Helper()
	for i, c := range r.cells {
		if got, err := s.Read(i); err != nil || got != c {
			t.Fatalf("cell %d: %+v, %v, want %+v", i, got, err, c)
		}
	}
}

// match holds a descriptor against what it is to be.
func match(t *testing.T, d *Desc, o *other) {
	t.Helper()
	if d.Status() != o.status || d.Over() != o.over() || d.Mark() != o.mark {
		t.Fatalf("%d, %v, %d, want %+v", d.Status(), d.Over(), d.Mark(), o)
	}
}

// build is a store of a few cells, of few values, some of them reserved; and
// the same as a room.
func build(t *testing.T, d *dice) (*word.Store, *room) {
	t.Helper()
	r := &room{make([]api.Cell, 1+d.roll(4)), uint32(1 + d.roll(3))}
	for i := range r.cells {
		r.cells[i] = api.Cell{Value: uint64(d.roll(3)), Version: uint32(d.roll(int(r.limit) + 1)),
			Mark: max(0, d.roll(12)-8)}
	}
	return store(t, r.limit, r.cells...), r
}

// entries are some: most of them stand, as the room is now.
func (r *room) entries(d *dice) []tx.Entry {
	l := make([]tx.Entry, d.roll(5))
	for n := range l {
		i := d.roll(len(r.cells))
		e := tx.Entry{Cell: i, Version: r.cells[i].Version, Old: r.cells[i].Value,
			New: uint64(d.roll(9)), Write: d.roll(2) == 0}
		switch d.roll(12) {
		case 0:
			e.Cell = d.roll(len(r.cells)+4) - 2
		case 1:
			e.Version = uint32(d.roll(4))
		}
		l[n] = e
	}
	return l
}

// stray is what somebody else does to a store, with any mark: both do it.
func stray(d *dice, s *word.Store, r *room) {
	i, mark := d.roll(len(r.cells)), 1+d.roll(4)
	c := &r.cells[i]
	if d.roll(2) == 0 {
		if s.Reserve(i, c.Version, mark) == nil {
			c.Mark = mark
		}
		return
	}
	if s.Release(i, c.Mark) == nil {
		c.Mark = 0
	}
}

// P7.1: whatever the entries and the marks, also those of others, and the same
// ones, in any order of steps.
func TestLaws(t *testing.T) {
	var d dice
	var ends [4]int
	ways := 0
	for range 8000 {
		s, r := build(t, &d)
		var l []*Desc
		var m []*other
		for range 1 + d.roll(4) {
			mark, entries := d.roll(6)-1, r.entries(&d)
			l, m = append(l, New(mark, entries)), append(m, newOther(mark, entries))
		}
		for range 50 {
			if d.roll(8) == 0 {
				stray(&d, s, r)
			}
			n := d.roll(len(l))
			got, want := l[n].Step(s), r.step(m[n])
			if got != want {
				t.Fatalf("%+v: it tells %d, want %d", m[n], got, want)
			}
			if want != 0 {
				ways++
			}
			for i := range l {
				match(t, l[i], m[i])
			}
			agree(t, s, r)
		}
		for _, o := range m {
			if o.over() {
				ends[o.status]++
			}
		}
	}
	// Else the laws would have been held against nothing.
	if ends[Open] != 0 || min(ends[Done], ends[Failed], ends[Spent], ways) < 1000 {
		t.Error("hardly anything happened:", ends, ways)
	}
}

// crowd are descriptors of one store, of marks 1, 2, and so on, and what it had
// at first.
type crowd struct {
	s     *word.Store
	l     []*Desc
	of    [][]tx.Entry
	first []api.Cell
	done  []int // their numbers, in the order in which they became Done
	steps int
}

func newCrowd(t *testing.T, d *dice) *crowd {
	t.Helper()
	cells := make([]api.Cell, 1+d.roll(5))
	limit := uint32(1 + d.roll(6))
	for i := range cells {
		cells[i] = api.Cell{Value: uint64(d.roll(5)), Version: uint32(d.roll(int(limit) + 1))}
	}
	return &crowd{s: store(t, limit, cells...), first: cells}
}

// join adds a descriptor of what a function does to a few cells, as they are
// now: a cell that is reserved can't be learnt.
func (c *crowd) join(d *dice) {
	x := tx.New(c.s.Len())
	for i := range c.s.Len() {
		if w, _ := c.s.Read(i); w.Mark == 0 && d.roll(3) > 0 {
			x.Learn(i, w)
		}
	}
	x.Run(func(v view.View) {
		for i := range c.s.Len() {
			if d.roll(2) == 0 && v.Read(i)%2 == 0 {
				v.Write(i, v.Read(i)+uint64(d.roll(3)))
			}
		}
	})
	l := x.Entries()
	c.l, c.of = append(c.l, New(len(c.l)+1, l)), append(c.of, l)
}

// step takes a step of number n: where another mark is in the way, that one's
// instead, and so on, till something is done.
func (c *crowd) step(t *testing.T, n int) {
	t.Helper()
	for range c.l {
		was := c.l[n].Status()
		mark := c.l[n].Step(c.s)
		if mark == 0 {
			if was == Open && c.l[n].Status() == Done {
				c.done = append(c.done, n)
			}
			c.steps++
			return
		}
		if was != Open || mark > len(c.l) || mark == n+1 || c.l[mark-1].Over() {
			t.Fatalf("%d tells mark %d", n+1, mark)
		}
		n = mark - 1
	}
	t.Fatal("each one is in the way of another one")
}

// open are the numbers of those that aren't over.
func (c *crowd) open() []int {
	var l []int
	for n, d := range c.l {
		if !d.Over() {
			l = append(l, n)
		}
	}
	return l
}

// after is what the store is to have, if the Done ones had been one behind the
// other: each is to find what it read.
func (c *crowd) after(t *testing.T) []api.Cell {
	t.Helper()
	l := slices.Clone(c.first)
	for _, n := range c.done {
		for _, e := range c.of[n] {
			w := &l[e.Cell]
			if w.Version != e.Version || w.Value != e.Old {
				t.Fatalf("%d read %+v, where there was %+v", n+1, e, *w)
			}
			if e.Write {
				w.Value, w.Version = e.New, w.Version+1
			}
		}
	}
	return l
}

// ended holds, once all are over, why each one ended so: a Failed one found a
// version that had gone on, a Spent one would write a cell at its limit.
func (c *crowd) ended(t *testing.T, last []api.Cell) {
	t.Helper()
	for n, d := range c.l {
		moved := slices.ContainsFunc(c.of[n], func(e tx.Entry) bool { return last[e.Cell].Version > e.Version })
		spent := slices.ContainsFunc(c.of[n], func(e tx.Entry) bool { return e.Write && e.Version == c.s.Limit() })
		ok := d.Status() == Done && slices.Contains(c.done, n) && !spent ||
			d.Status() == Failed && moved || d.Status() == Spent && spent
		if !ok {
			t.Fatalf("%d of %+v is %s, the store %+v", n+1, c.of[n], state(d), last)
		}
	}
}

// P7.3: in any order of steps, each one helping what is in its way, all are
// over before long; no cell bears a mark; the Done ones were as if one behind
// the other, and the others put nothing.
func TestLawsOfTheWhole(t *testing.T) {
	var d dice
	var ends [4]int
	for range 12000 {
		c := newCrowd(t, &d)
		for joins := 2 + d.roll(5); joins > 0 || len(c.open()) > 0; {
			if l := c.open(); len(l) > 0 && (joins == 0 || d.roll(3) > 0) {
				c.step(t, l[d.roll(len(l))])
				continue
			}
			c.join(&d)
			joins--
		}
		most := 0
		for _, l := range c.of {
			most += 2*len(l) + 1
		}
		if c.steps > most {
			t.Fatalf("%d steps, want %d at most", c.steps, most)
		}
		last := c.after(t)
		for i, w := range last {
			if got, err := c.s.Read(i); err != nil || got != w {
				t.Fatalf("cell %d: %+v, %v, want %+v", i, got, err, w)
			}
		}
		c.ended(t, last)
		for _, x := range c.l {
			ends[x.Status()]++
		}
	}
	// Else the laws would have been held against nothing.
	if ends[Open] != 0 || min(ends[Done], ends[Failed], ends[Spent]) < 1000 {
		t.Error("hardly anything happened:", ends)
	}
}

// P7.3: over, a descriptor has put all that it writes, if it is Done, or
// nothing; no cell bears its mark.
func TestLawsOfOne(t *testing.T) {
	var d dice
	for range 4000 {
		c := newCrowd(t, &d)
		c.join(&d)
		for n := range 2*len(c.of[0]) + 1 {
			if c.l[0].Over() && c.l[0].Status() == Done {
				t.Fatalf("%+v is over behind %d steps", c.of[0], n)
			}
			c.step(t, 0)
		}
		rests(t, fmt.Sprintf("%+v", c.of[0]), c.l[0], c.s)
		agree(t, c.s, &room{c.after(t), c.s.Limit()})
	}
}

// P1 of the whole: no call panics, at all arguments, and each thing ends.
func TestAnyArguments(t *testing.T) {
	ints := []int{0, 1, 2, 3, -1, -2, 1023, 1024, 1025, 1 << 32, math.MaxInt, math.MinInt}
	versions := []uint32{0, 1, 2, math.MaxInt32, api.MaxVersion}
	for _, mark := range ints {
		for _, i := range ints {
			for _, version := range versions {
				for _, write := range []bool{false, true} {
					e := tx.Entry{Cell: i, Version: version, Old: math.MaxUint64, New: math.MaxUint64, Write: write}
					s := store(t, 1, api.Cell{}, api.Cell{Version: 1})
					d := New(mark, []tx.Entry{e, e})
					for range 5 {
						d.Step(nil)
						if n := d.Step(s); n != 0 {
							t.Fatalf("mark %d, %+v: %d is in the way", mark, e, n)
						}
					}
					rests(t, fmt.Sprintf("mark %d, %+v", mark, e), d, s)
				}
			}
		}
	}
}

// P1 of the whole: as many entries as there may be cells, and more.
func TestManyEntries(t *testing.T) {
	for _, n := range []int{api.MaxCells, 5 * api.MaxCells} {
		s := fresh(t, api.MaxCells)
		l := make([]tx.Entry, n)
		for i := range l {
			l[i] = writes(i%api.MaxCells, 0, uint64(i))
		}
		d := New(1, l)
		for range n {
			d.Step(s)
		}
		if d.Status() != Open {
			t.Error("all are reserved:", d.Status())
		}
		if d.Step(s); d.Status() != Done || d.Over() {
			t.Error("one step more:", state(d))
		}
		for range n {
			d.Step(s)
		}
		if !d.Over() {
			t.Error("all are put: it isn't over")
		}
		for i, w := range s.Values() {
			if c, _ := s.Read(i); w != uint64(i) || c.Version != 1 || c.Mark != 0 {
				t.Fatalf("cell %d: %+v", i, c)
			}
		}
	}
}
