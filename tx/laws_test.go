package tx

import (
	"math"
	"slices"
	"testing"

	"padstone/api"
	"padstone/view"
	"padstone/word"
)

// dice are numbers from a short rule: the same ones in each run.
type dice uint64

func (d *dice) roll(n int) int {
	*d = *d*6364136223846793005 + 1442695040888963407
	return int(uint64(*d) >> 33 % uint64(n))
}

// deed is what a function does with one word: it adds it to its sum, or makes
// it that sum and some more.
type deed struct {
	i     int
	write bool
	more  uint64
}

// deeds are some, of cells from -2 on, to two behind the last one.
func (d *dice) deeds(cells int) []deed {
	l := make([]deed, d.roll(9))
	for n := range l {
		l[n] = deed{i: d.roll(cells+4) - 2, write: d.roll(2) == 0, more: uint64(d.roll(3))}
	}
	return l
}

// function does deeds; what it has read is told.
func function(l []deed, told *[]uint64) func(v view.View) {
	return func(v view.View) {
		sum := uint64(0)
		*told = nil
		for _, x := range l {
			if x.write {
				v.Write(x.i, sum+x.more)
				continue
			}
			w := v.Read(x.i)
			sum += w
			*told = append(*told, w)
		}
	}
}

// The chapter's words once more, a run as the list of what is written in it.

// model is what a record is to know.
type model struct {
	cells  int
	values []uint64
	known  []bool
	at     []uint32
}

func newModel(cells int) *model {
	n := max(cells, 0)
	return &model{cells, make([]uint64, n), make([]bool, n), make([]uint32, n)}
}

func (m *model) has(i int) bool { return i >= 0 && i < m.cells }

// reads is how many cells were learnt.
func (m *model) reads() int {
	n := 0
	for _, k := range m.known {
		if k {
			n++
		}
	}
	return n
}

func (m *model) learn(i int, c api.Cell) {
	if m.has(i) {
		m.values[i], m.at[i], m.known[i] = c.Value, c.Version, true
	}
}

// writtenAt is what was written at i the last time, if anything was.
func writtenAt(l []view.Pair[uint64], i int) (uint64, bool) {
	for _, p := range slices.Backward(l) {
		if p.At == i {
			return p.Val, true
		}
	}
	return 0, false
}

// read is what a run that has written l is to read at i.
func (m *model) read(l []view.Pair[uint64], i int) uint64 {
	w, ok := writtenAt(l, i)
	switch {
	case !m.has(i):
		return 0
	case !ok && m.known[i]:
		return m.values[i]
	}
	return w
}

// run is what a run of deeds is to come to: all that are lacked, in order, all
// that is read, and the entries.
func (m *model) run(deeds []deed) (lacked []int, told []uint64, entries []Entry) {
	var l []view.Pair[uint64]
	sum := uint64(0)
	for _, x := range deeds {
		if m.has(x.i) && !m.known[x.i] {
			lacked = append(lacked, x.i)
		}
		if x.write {
			l = append(l, view.Pair[uint64]{At: x.i, Val: sum + x.more})
			continue
		}
		told = append(told, m.read(l, x.i))
		sum += told[len(told)-1]
	}
	if len(lacked) > 0 {
		return lacked, told, nil
	}
	for i, w := range m.values {
		if m.known[i] {
			now := m.read(l, i)
			entries = append(entries, Entry{i, m.at[i], w, now, now != w})
		}
	}
	return nil, told, entries
}

// learnSome lets both learn a few cells, some of them where there is none.
func learnSome(d *dice, x *Tx, m *model) {
	for range d.roll(3) {
		i := d.roll(max(m.cells, 0)+4) - 2
		c := api.Cell{Value: uint64(d.roll(3)), Version: uint32(d.roll(3)), Mark: d.roll(2)}
		x.Learn(i, c)
		m.learn(i, c)
	}
}

// laws hold a run of deeds against the model's, and tell its entries, and
// whether it lacked none.
func laws(t *testing.T, x *Tx, m *model, deeds []deed) ([]Entry, bool) {
	t.Helper()
	var told []uint64
	i, ok := x.Run(function(deeds, &told))
	lacked, want, entries := m.run(deeds)
	if ok != (len(lacked) == 0) || ok && i != 0 || !ok && i != lacked[0] {
		t.Fatalf("%+v: %+v: %d, %v, want %v", m, deeds, i, ok, lacked)
	}
	if !slices.Equal(told, want) {
		t.Fatalf("%+v: %+v: it reads %v, want %v", m, deeds, told, want)
	}
	l := x.Entries()
	if !slices.Equal(l, entries) || !slices.Equal(x.Entries(), l) {
		t.Fatalf("%+v: %+v: %v, want %v", m, deeds, l, entries)
	}
	if x.Reads() != m.reads() {
		t.Fatalf("%+v: %d were read, want %d", m, x.Reads(), m.reads())
	}
	return l, ok
}

// P6.1, P6.2: whatever is learnt and run, in any order.
func TestLaws(t *testing.T) {
	var d dice
	short, full, written := 0, 0, 0
	for cells := -1; cells < 6; cells++ {
		for range 600 {
			x, m := New(cells), newModel(cells)
			for range 12 {
				learnSome(&d, x, m)
				l, ok := laws(t, x, m, d.deeds(max(cells, 0)))
				if ok {
					full++
				} else {
					short++
				}
				for _, e := range l {
					if e.Write {
						written++
					}
				}
			}
		}
	}
	// Else the laws would have been held against nothing.
	if min(short, full, written) < 3000 {
		t.Error("hardly anything was run:", short, full, written)
	}
}

// stored is a store of some cells, of few values, at unlike versions.
func stored(t *testing.T, d *dice, cells int) *word.Store {
	t.Helper()
	s, err := word.New(cells, api.MaxVersion)
	if err != nil {
		t.Fatal(err)
	}
	for i := range cells {
		for version := range uint32(d.roll(4)) {
			if s.Reserve(i, version, 1) != nil || s.Put(i, 1, uint64(d.roll(4))) != nil {
				t.Fatalf("a store whose cell %d can't be put", i)
			}
		}
	}
	return s
}

// finish runs f till it lacks none, learning each cell from a store.
func finish(t *testing.T, x *Tx, s *word.Store, f func(v view.View)) {
	t.Helper()
	for range s.Len() + 1 {
		before := x.Reads()
		i, ok := x.Run(f)
		if ok {
			return
		}
		c, err := s.Read(i)
		if err != nil {
			t.Fatalf("it lacks %d: %v", i, err)
		}
		x.Learn(i, c)
		if x.Reads() != before+1 {
			t.Fatalf("%d were read, and one more: %d", before, x.Reads())
		}
	}
	t.Fatal("it lacks more cells than there are")
}

// P6.3: run till it lacks none, it has done what the function does to the
// store's values; and the store has changed by nothing but its entries.
func TestLawsOfTheWhole(t *testing.T) {
	var d dice
	for range 6000 {
		s := stored(t, &d, 1+d.roll(6))
		deeds := d.deeds(s.Len())
		before := s.Values()
		plain := view.Plain(s.Values())
		var told, want []uint64
		function(deeds, &want)(plain)
		x := New(s.Len())
		finish(t, x, s, function(deeds, &told))
		if !slices.Equal(told, want) || !slices.Equal(s.Values(), before) {
			t.Fatalf("%v: %+v: it reads %v, want %v; there is %v then",
				before, deeds, told, want, s.Values())
		}
		for _, e := range x.Entries() {
			c, err := s.Read(e.Cell)
			if err != nil || c.Value != e.Old || c.Version != e.Version {
				t.Fatalf("%v: %+v: %+v of %+v", before, deeds, e, c)
			}
			if e.Write && (s.Reserve(e.Cell, e.Version, 7) != nil || s.Put(e.Cell, 7, e.New) != nil) {
				t.Fatalf("%v: %+v: %+v can't be put", before, deeds, e)
			}
		}
		if !slices.Equal(s.Values(), plain) {
			t.Fatalf("%v: %+v: %v, want %v", before, deeds, s.Values(), plain)
		}
	}
}

// P1 of the whole: no call panics, at all arguments.
func TestAnyArguments(t *testing.T) {
	ints := []int{0, 1, 2, 3, -1, -2, 1023, 1024, 1025, 1 << 32, math.MaxInt, math.MinInt}
	for _, cells := range ints {
		x := New(cells)
		for _, i := range ints {
			has := i >= 0 && i < cells
			f := func(v view.View) { v.Read(i); v.Write(i, math.MaxUint64); v.Read(i) }
			if n, ok := x.Run(f); ok == has || has && n != i || !has && n != 0 {
				t.Fatalf("of %d cells, cell %d: %d, %v", cells, i, n, ok)
			}
			x.Entries()
			x.Learn(i, api.Cell{Value: math.MaxUint64, Version: api.MaxVersion, Mark: math.MinInt})
			if n, ok := x.Run(f); !ok || n != 0 {
				t.Fatalf("of %d cells, cell %d, learnt: %d, %v", cells, i, n, ok)
			}
			x.Run(nil)
			x.Entries()
			x.Reads()
		}
		// A function may call the record that it runs on, too.
		x.Run(func(v view.View) {
			x.Learn(0, api.Cell{})
			x.Run(func(view.View) { v.Write(0, 1) })
			x.Entries()
			x.Reads()
		})
		x.Entries()
	}
}
