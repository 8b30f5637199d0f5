package stm

import (
	"math"
	"slices"
	"testing"

	"padstone/api"
	"padstone/view"
	"padstone/word"
)

// dice are numbers from a short rule: the same ones in each run.
type dice uint64

func (d *dice) roll(n int) int {
	*d = *d*6364136223846793005 + 1442695040888963407
	return int(uint64(*d) >> 33 % uint64(n))
}

// The chapter's words once more, without layers 6 and 7: cells as a list,
// records as maps, and of each descriptor what was reserved, and released.

// What a plan may have become.
const (
	open = iota
	done
	failed
	ended
)

// cellOf is a cell of a plan: what was read there, and what it is to be.
type cellOf struct {
	at       int
	read     api.Cell
	to       uint64
	writes   bool
	reserved bool
	released bool
}

// plan is what a descriptor is to be.
type plan struct {
	entry  Entry
	cells  []cellOf
	status int
}

func (p *plan) over() bool {
	return p.status != open && !slices.ContainsFunc(p.cells, func(c cellOf) bool { return !c.released })
}

// hand is what a worker is to be.
type hand struct {
	feed  Feed
	told  []int
	job   Job
	reads map[int]api.Cell
	mark  int // of its plan; 0: it has none
}

// mind is what a machine, and its store, are to be.
type mind struct {
	cells []api.Cell
	limit uint32
	hands []*hand
	plans []*plan // of marks 1, 2, and so on
	log   []Entry
}

// guess is a view of what a hand has read, and what it would write.
type guess struct {
	cells int
	reads map[int]api.Cell
	wrote map[int]uint64
	lacks []int
}

func (g *guess) Read(i int) uint64 {
	g.touch(i)
	if w, ok := g.wrote[i]; ok {
		return w
	}
	return g.reads[i].Value
}

func (g *guess) Write(i int, v uint64) {
	if i >= 0 && i < g.cells {
		g.touch(i)
		g.wrote[i] = v
	}
}

func (g *guess) touch(i int) {
	if _, ok := g.reads[i]; !ok && i >= 0 && i < g.cells {
		g.lacks = append(g.lacks, i)
	}
}

// step is what a step of a worker is to do.
func (o *mind) step(n int) bool {
	if n < 0 || n >= len(o.hands) {
		return false
	}
	h := o.hands[n]
	if h.job == nil {
		h.job, h.reads = h.feed(slices.Clone(h.told)), map[int]api.Cell{}
		return h.job != nil
	}
	if h.mark == 0 {
		o.run(n, h)
		return true
	}
	p := o.plans[h.mark-1]
	if !p.over() {
		o.help(h.mark)
		return true
	}
	h.mark, h.reads = 0, map[int]api.Cell{}
	if p.status != failed {
		h.told, h.job = append(h.told, p.entry.Told), nil
	}
	return true
}

// run is what a job's run on its record is to come to.
func (o *mind) run(n int, h *hand) {
	g := &guess{len(o.cells), h.reads, map[int]uint64{}, nil}
	told := h.job(g)
	if len(g.lacks) > 0 {
		i := g.lacks[0]
		if o.cells[i].Mark != 0 {
			o.help(o.cells[i].Mark)
		} else {
			h.reads[i] = o.cells[i]
		}
		return
	}
	p := &plan{entry: Entry{Worker: n, Job: len(h.told), Told: told}}
	for i := range o.cells {
		if c, ok := h.reads[i]; ok {
			w, ok := g.wrote[i]
			p.cells = append(p.cells, cellOf{at: i, read: c, to: w, writes: ok && w != c.Value})
		}
	}
	o.plans = append(o.plans, p)
	h.mark = len(o.plans)
}

// help is what a step of a mark's descriptor is to do.
func (o *mind) help(mark int) {
	p := o.plans[mark-1]
	if p.status != open {
		i := slices.IndexFunc(p.cells, func(c cellOf) bool { return !c.released })
		p.cells[i].released = true
		o.release(p, p.cells[i], mark)
		return
	}
	i := slices.IndexFunc(p.cells, func(c cellOf) bool { return !c.reserved })
	if i < 0 {
		p.status = done
		o.log = append(o.log, p.entry)
		return
	}
	x := &p.cells[i]
	c := &o.cells[x.at]
	switch {
	case c.Mark != 0:
		o.help(c.Mark)
	case c.Version != x.read.Version:
		p.status = failed
	case x.writes && c.Version == o.limit:
		p.status, p.entry.Told, p.entry.Spent = ended, -1, true
		o.log = append(o.log, p.entry)
	default:
		c.Mark, x.reserved = mark, true
	}
}

// release is what releasing a cell is to do.
func (o *mind) release(p *plan, x cellOf, mark int) {
	c := &o.cells[x.at]
	if c.Mark != mark {
		return
	}
	c.Mark = 0
	if p.status == done && x.writes {
		c.Value, c.Version = x.to, c.Version+1
	}
}

// idle is whether it is to be.
func (o *mind) idle() bool {
	return !slices.ContainsFunc(o.hands, func(h *hand) bool {
		return h.job != nil || h.feed(slices.Clone(h.told)) != nil
	})
}

// match holds all that is to be seen of a machine against what it is to be.
func match(t *testing.T, m *Machine, s *word.Store, o *mind) {
	t.Helper()
	for i, c := range o.cells {
		if got, err := s.Read(i); err != nil || got != c {
			t.Fatalf("cell %d: %+v, %v, want %+v", i, got, err, c)
		}
	}
	for n, h := range o.hands {
		if got := m.Told(n); !slices.Equal(got, h.told) || m.Busy(n) != (h.job != nil) {
			t.Fatalf("worker %d: %v, %v, want %+v", n, got, m.Busy(n), h)
		}
	}
	if got := m.Log(); !slices.Equal(got, o.log) {
		t.Fatalf("the log is %v, want %v", got, o.log)
	}
	if m.Idle() != o.idle() {
		t.Fatalf("it is idle: %v", m.Idle())
	}
}

// op is one thing that a job does.
type op struct{ what, at, by int }

// script is a job of a few things, each of which hangs on what was read ahead.
func script(d *dice, cells int) Job {
	l := make([]op, d.roll(6))
	for n := range l {
		l[n] = op{d.roll(6), d.roll(cells+2) - 1, d.roll(5)}
	}
	return func(v view.View) int {
		sum := 0
		for _, x := range l {
			switch x.what {
			case 0, 1:
				sum += int(v.Read(x.at))
			case 2:
				v.Write(x.at, uint64(sum+x.by))
			case 3:
				v.Write(x.at, v.Read(x.at)+uint64(x.by))
			case 4:
				sum -= int(v.Read(sum & 3))
			case 5:
				if sum%3 == x.by {
					return -sum
				}
			}
		}
		return sum
	}
}

// feed is a list of a few jobs, or one that chooses by what was told.
func feed(d *dice, cells int) Feed {
	l := make([]Job, d.roll(5))
	for n := range l {
		l[n] = script(d, cells)
	}
	if d.roll(2) == 0 {
		return List(l)
	}
	return func(told []int) Job {
		sum := 0
		for _, n := range told {
			sum += n & 7
		}
		if len(l) == 0 || len(told) > len(l) {
			return nil
		}
		return l[sum%len(l)]
	}
}

// built is a machine of some workers on a store of a few cells, and what it had
// at first.
type built struct {
	m      *Machine
	s      *word.Store
	feeds  []Feed
	values []uint64
}

func build(t *testing.T, d *dice) built {
	t.Helper()
	limit := uint32(1 + d.roll(3))
	if d.roll(3) == 0 {
		limit = api.MaxVersion
	}
	b := built{values: make([]uint64, 1+d.roll(5))}
	for i := range b.values {
		b.values[i] = uint64(d.roll(4))
	}
	b.s = store(t, limit, b.values...)
	for range d.roll(5) {
		b.feeds = append(b.feeds, feed(d, len(b.values)))
	}
	if d.roll(8) == 0 {
		for len(b.feeds) < api.MaxThreads {
			b.feeds = append(b.feeds, feed(d, len(b.values)))
		}
	}
	b.m = machine(t, b.s, b.feeds...)
	return b
}

// mind is the same once more.
func (b built) mind() *mind {
	o := &mind{limit: b.s.Limit()}
	for _, w := range b.values {
		o.cells = append(o.cells, api.Cell{Value: w})
	}
	for _, f := range b.feeds {
		o.hands = append(o.hands, &hand{feed: f})
	}
	return o
}

// P8.1: whatever the jobs, the store's limit, and the order of steps: each step
// does what the chapter tells, and all that is to be seen is as it tells.
func TestLaws(t *testing.T) {
	var d dice
	ends, fails, spents := 0, 0, 0
	for range 4000 {
		b := build(t, &d)
		o := b.mind()
		match(t, b.m, b.s, o)
		pick := picker(&d, len(b.feeds))
		for k := 0; k < 250 && !o.idle(); k++ {
			n := pick()
			if got, want := b.m.Step(n), o.step(n); got != want {
				t.Fatalf("a step of %d of %d workers: %v, want %v", n, len(b.feeds), got, want)
			}
			match(t, b.m, b.s, o)
		}
		if o.idle() {
			ends++
		}
		for _, p := range o.plans {
			switch p.status {
			case failed:
				fails++
			case ended:
				spents++
			}
		}
	}
	// Else the laws would have been held against nothing.
	if min(ends, fails, spents) < 500 {
		t.Error("hardly anything happened:", ends, fails, spents)
	}
}

// picker picks workers in one of a few ways, also such as there aren't.
func picker(d *dice, workers int) func() int {
	way, at, left := d.roll(4), 0, 0
	return func() int {
		switch {
		case way == 0: // any
			return d.roll(workers+2) - 1
		case way == 1: // in turn
			at++
			return at % (workers + 1)
		case left == 0: // one for a while, then another one
			at, left = d.roll(workers+1), 1+d.roll(3+9*(way-2))
		}
		left--
		return at
	}
}

// replay is what the log's jobs come to one behind the other, on values as they
// were at first: those that were Spent left out.
func (b built) replay(t *testing.T) ([][]int, []uint64) {
	t.Helper()
	told, values := make([][]int, len(b.feeds)), slices.Clone(b.values)
	for _, e := range b.m.Log() {
		j := b.feeds[e.Worker](slices.Clone(told[e.Worker]))
		if j == nil || e.Job != len(told[e.Worker]) || e.Spent && e.Told != -1 {
			t.Fatalf("the log has %+v behind %v", e, told)
		}
		if !e.Spent {
			if n := j(view.Plain(values)); n != e.Told {
				t.Fatalf("%+v: one behind the other it tells %d", e, n)
			}
		}
		told[e.Worker] = append(told[e.Worker], e.Told)
	}
	return told, values
}

// quiet is whether no job is under way.
func (b built) quiet() bool {
	for w := range b.feeds {
		if b.m.Busy(w) {
			return false
		}
	}
	return true
}

// agree holds what was told, and, once none is under way, the store, against
// what the log's jobs come to one behind the other.
func (b built) agree(t *testing.T) {
	t.Helper()
	told, values := b.replay(t)
	for w := range b.feeds {
		got, want := b.m.Told(w), told[w]
		// Of a job that is under way the log may have been told already.
		if !slices.Equal(got, want) && !(b.m.Busy(w) && len(want) == len(got)+1 && slices.Equal(got, want[:len(got)])) {
			t.Fatalf("worker %d told %v, the log has %v", w, got, want)
		}
	}
	if !b.quiet() {
		return
	}
	if got := b.s.Values(); !slices.Equal(got, values) {
		t.Fatalf("the store has %v, one behind the other it comes to %v", got, values)
	}
	for i := range b.s.Len() {
		if c, _ := b.s.Read(i); c.Mark != 0 {
			t.Fatalf("none is under way, and cell %d bears %d", i, c.Mark)
		}
	}
}

// P8.3: all that jobs told, and what the store has, is what they come to one
// behind the other in the log's order, behind any step; no cell bears a mark
// once none is under way.
func TestLawsOfTheLog(t *testing.T) {
	var d dice = 5
	quiets := 0
	for range 1500 {
		b := build(t, &d)
		pick := picker(&d, len(b.feeds))
		for k := 0; k < 4000 && !b.m.Idle(); k++ {
			b.m.Step(pick())
			if k%7 == 0 || b.quiet() {
				b.agree(t)
			}
			if b.quiet() && len(b.m.Log()) > 0 {
				quiets++
			}
		}
		if !b.m.Idle() {
			t.Fatal("it doesn't end")
		}
		b.agree(t)
		rests(t, "behind all", b.m, b.s)
	}
	if quiets < 1000 {
		t.Error("hardly ever none was under way:", quiets)
	}
}

// P8.3: a counter is added to by all, in any order of steps: none is lost, and
// each job tells another number, in the log's order.
func TestLawsOfACounter(t *testing.T) {
	var d dice = 9
	for workers := range api.MaxThreads {
		workers++
		for range 20 {
			s := store(t, api.MaxVersion, 0)
			m := jobs(t, s, slices.Repeat([][]Job{slices.Repeat(one(add(0, 1)), 5)}, workers)...)
			for pick := picker(&d, workers); !m.Idle(); {
				m.Step(pick())
			}
			for n, e := range m.Log() {
				if e.Told != n+1 || e.Spent || m.Told(e.Worker)[e.Job] != e.Told {
					t.Fatalf("of %d workers: %+v is number %d", workers, e, n)
				}
			}
			if c, _ := s.Read(0); c != (api.Cell{Value: uint64(5 * workers), Version: uint32(5 * workers)}) {
				t.Fatalf("of %d workers: %+v", workers, c)
			}
		}
	}
}

// grown counts what P8.4 tells of: how long the log is, and how many jobs have
// ended.
func (b built) grown() int {
	n := len(b.m.Log())
	for w := range b.feeds {
		n += len(b.m.Told(w))
	}
	return n
}

// longest is the longest row of steps, by workers that have a job, of which
// none makes the log longer, or ends a job.
func (b built) longest(t *testing.T, pick func() int, limit int) int {
	t.Helper()
	row, most, was := 0, 0, 0
	for !b.m.Idle() {
		if !b.m.Step(pick()) {
			continue
		}
		row++
		if n := b.grown(); n > was {
			row, was = 0, n
		}
		if most = max(most, row); row >= limit {
			t.Fatalf("of %d workers, %d cells: %d steps in a row come to nothing", len(b.feeds), len(b.values), row)
		}
	}
	return most
}

// bound is P8.4's number of steps.
func (b built) bound() int {
	return len(b.feeds) * (len(b.feeds) + 2) * (3*len(b.values) + 10)
}

// P8.4: of that many steps in a row one at least makes the log longer, or ends
// a job; so all jobs end.
func TestLawsOfSteps(t *testing.T) {
	var d dice = 13
	for range 1200 {
		b := build(t, &d)
		b.longest(t, picker(&d, len(b.feeds)), b.bound())
	}
}

// P8.4: also of jobs that all want all cells, and learn them in unlike orders.
func TestLawsOfACrowd(t *testing.T) {
	var d dice = 17
	most := 0
	for range 300 {
		b := built{values: make([]uint64, 1+d.roll(12))}
		cells := len(b.values)
		b.s = store(t, api.MaxVersion, b.values...)
		for range 2 + d.roll(7) {
			from, step := d.roll(cells), 1+(cells-2)*d.roll(2)
			b.feeds = append(b.feeds, List(slices.Repeat(one(func(v view.View) int {
				sum := 0
				for k := range cells {
					i := (from + max(step, 1)*k) % cells
					sum += int(v.Read(i))
					v.Write(i, v.Read(i)+1)
				}
				return sum
			}), 1+d.roll(4))))
		}
		b.m = machine(t, b.s, b.feeds...)
		most = max(most, b.longest(t, picker(&d, len(b.feeds)), b.bound())*100/b.bound())
		b.agree(t)
	}
	// Else the crowd would have been none.
	if most < 10 {
		t.Error("nobody was in anybody's way:", most)
	}
}

// P1 of the whole: no call panics, at all arguments.
func TestAnyArguments(t *testing.T) {
	ints := []int{0, 1, 2, 7, 8, 9, -1, -2, 1023, 1 << 32, math.MaxInt, math.MinInt}
	feeds := []Feed{nil, List(nil), List([]Job{nil}), List(one(fix(1))),
		func([]int) Job { panic("so") },
		func(told []int) Job { return []Job{fix(3)}[len(told)] }}
	for _, cells := range []int{0, 1, 3} {
		for n := range 11 {
			for _, f := range feeds {
				var s *word.Store
				if cells > 0 {
					s = store(t, 1, make([]uint64, cells)...)
				}
				m, err := New(s, slices.Repeat([]Feed{f}, n))
				if (err == nil) != (s != nil && n <= 8 && (f != nil || n == 0)) || (m == nil) != (err != nil) {
					t.Fatalf("%d cells, %d feeds: %v", cells, n, err)
				}
				if err != nil {
					continue
				}
				for _, w := range ints {
					for range 6 {
						m.Step(w)
						m.Told(w)
						m.Busy(w)
						m.Log()
						m.Idle()
					}
				}
				finish(t, m)
				rests(t, "any arguments", m, s)
			}
		}
	}
}
