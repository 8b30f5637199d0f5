package ntfn

import (
	"math"
	"slices"
	"testing"

	"padstone/api"
	"padstone/endp"
	"padstone/queue"
	"padstone/stm"
	"padstone/tx"
	"padstone/view"
	"padstone/word"
)

// dice are numbers from a short rule: the same ones in each run.
type dice uint64

func (d *dice) roll(n int) int {
	*d = *d*6364136223846793005 + 1442695040888963407
	return int(uint64(*d) >> 33 % uint64(n))
}

// of is one of a list.
func (d *dice) of(l ...int) int { return l[d.roll(len(l))] }

// word is one of a list of words.
func (d *dice) word(l []uint64) uint64 { return l[d.roll(len(l))] }

// number is one of the first n objects, or, now and then, what is none.
func (d *dice) number(n int) int {
	if d.roll(30) == 0 {
		return d.of(noObjs...)
	}
	return d.roll(n)
}

// badge is one, and what of it counts.
func (d *dice) badge() (int, int) {
	switch d.roll(4) {
	case 0:
		b := badges[d.roll(len(badges))]
		return b[0], b[1]
	case 1:
		b := d.roll(1 << 16)
		return b, b
	}
	b := 1 << d.roll(16)
	return b, b
}

// signal is what Signal is to make of a world, by a badge that is one: whether one was woken.
func (w world) signal(obj, badge int) bool {
	e := w.ends[obj]
	if len(e.queue) > 0 {
		w.wakes(obj, badge)
		return true
	}
	// Bit by bit, unlike the layer.
	for bit := 1; bit <= api.MaxBadge; bit *= 2 {
		if badge/bit%2 == 1 && e.f1/bit%2 == 0 {
			e.f1 += bit
		}
	}
	return false
}

// wait is what Wait is to tell, a word, and whether there was one, and make of a world.
func (w world) wait(obj, i int) (int, bool) {
	word := w.poll(obj)
	if word == 0 {
		w.blocks(obj, i)
	}
	return word, word != 0
}

// poll is what Poll is to tell, and make of a world.
func (w world) poll(obj int) int {
	word := w.ends[obj].f1
	w.ends[obj].f1 = 0
	return word
}

// P16.1: calls of many threads, one behind the other, as lists have it, word by word;
// only who is Ready calls. An Ntfn that has a word has none that waits.
func TestLaws(t *testing.T) {
	var d dice
	seen := map[string]int{}
	for round := range 200 {
		w := begun()
		p := w.words()
		threads := someThreads[:2+d.roll(len(someThreads)-1)]
		for range 250 {
			obj, i := d.of(anNtfn, anNtfn, otherNtfn), d.of(threads...)
			x := w.threads[i]
			switch what := d.roll(12); {
			case what == 0 && x.state == endp.Waiting:
				endp.Cancel(p, i)
				e := w.ends[x.on]
				e.queue = slices.DeleteFunc(slices.Clone(e.queue), func(n int) bool { return n == i })
				x.state, x.on = endp.Stopped, -1
				seen["Stopped"]++
			case x.state == endp.Stopped:
				endp.Wake(p, i, what, what)
				x.state, x.word, x.badge = endp.Ready, what, what
			case x.state != endp.Ready:
			case what < 6:
				badge, bits := d.badge()
				signals(t, "laws", p, obj, badge, nil)
				seen[map[bool]string{false: "signalled", true: "woken"}[w.signal(obj, bits)]]++
			case what < 10:
				word, one := w.wait(obj, i)
				waits(t, "laws", p, obj, i, word, one, nil)
				seen[map[bool]string{false: "waits", true: "told"}[one]]++
			default:
				word := w.poll(obj)
				polls(t, "laws", p, obj, word, nil)
				seen[map[bool]string{false: "polled none", true: "polled"}[word != 0]]++
			}
			like(t, "laws", p, w)
			for obj, e := range w.ends {
				if e.kind == api.Ntfn && e.f1 != 0 && len(e.queue) > 0 {
					t.Errorf("%d has word %d, and %v wait", obj, e.f1, e.queue)
				}
			}
			if t.Failed() {
				t.Fatal("round", round)
			}
		}
	}
	for _, what := range []string{"Stopped", "signalled", "woken", "waits", "told", "polled none", "polled"} {
		if seen[what] < 1000 {
			t.Errorf("%s %d times", what, seen[what])
		}
	}
}

// P16.2: each bit that is signalled is told, by a Wait, a Poll, or to one that waited,
// or waits in the word; and nothing else is told.
func TestNoneLost(t *testing.T) {
	var d dice
	told := map[string]int{}
	for range 300 {
		p := begun().words()
		owed := map[int]int{} // of each Ntfn the bits that were signalled, and not told
		for range 300 {
			obj, i := d.of(anNtfn, otherNtfn), d.of(someThreads[:5]...)
			if endp.State(p, i) != endp.Ready {
				continue
			}
			switch d.roll(4) {
			case 0, 3:
				badge, bits := d.badge()
				l := queue.List(p, obj)
				signals(t, "none lost", p, obj, badge, nil)
				if len(l) == 0 {
					owed[obj] |= bits
					break
				}
				told["woken"]++
				if n := p[at(l[0], f3)]; n != uint64(bits) || endp.State(p, l[0]) != endp.Ready {
					t.Fatalf("%d is signalled, %d is told %d", badge, l[0], n)
				}
				if rest := queue.List(p, obj); !slices.Equal(rest, l[1:]) {
					t.Fatalf("%v are left of %v", rest, l)
				}
			case 1:
				one := owed[obj] != 0
				waits(t, "none lost", p, obj, i, owed[obj], one, nil)
				if one {
					told["a Wait"]++
				}
				owed[obj] = 0
			case 2:
				polls(t, "none lost", p, obj, owed[obj], nil)
				told["a Poll"]++
				owed[obj] = 0
			}
			for _, obj := range []int{anNtfn, otherNtfn} {
				if p[at(obj, f1)] != uint64(owed[obj]) {
					t.Fatalf("of %d %d is left, want %d", obj, p[at(obj, f1)], owed[obj])
				}
			}
		}
	}
	for _, what := range []string{"woken", "a Wait", "a Poll"} {
		if told[what] < 1000 {
			t.Errorf("%s told %d times", what, told[what])
		}
	}
}

// Words that no call left. What is to be done to them is told here once more, by
// numbers of words, but for queues, which are layer 14's.

// raw are such words.
type raw view.Plain

func (p raw) get(i, field int) int {
	if w := view.Plain(p).Read(at(i, field)); w <= 1<<62 {
		return int(w)
	}
	return 0
}

func (p raw) put(i, field, n int) { view.Plain(p).Write(at(i, field), uint64(n)) }

func (p raw) state(i, state, on int) {
	p.put(i, f1, state)
	p.put(i, f5, p.get(i, f5)%256+256*on)
}

func (p raw) signal(obj, bits int) string {
	i, ok := queue.Pop(view.Plain(p), obj)
	if !ok {
		p.put(obj, f1, p.get(obj, f1)|bits)
		return "signalled"
	}
	if p.get(i, f1) == endp.Replying {
		p.put(i, f2, 0)
	}
	p.state(i, endp.Ready, 0)
	p.put(i, f3, bits)
	p.put(i, f4, 0)
	return "woken"
}

func (p raw) wait(obj, i int) (int, bool) {
	if word := p.get(obj, f1); word != 0 {
		p.put(obj, f1, 0)
		return word, true
	}
	p.state(i, endp.Waiting, obj+1)
	queue.Push(view.Plain(p), obj, i)
	return 0, false
}

func (p raw) poll(obj int) int {
	word := p.get(obj, f1)
	p.put(obj, f1, 0)
	return word
}

// littered are words in which the fields of the first n objects tell any of them,
// or none, or nothing that is a number.
func (d *dice) littered(n int) view.Plain {
	p := filled()
	link := func() uint64 {
		switch d.roll(8) {
		case 0:
			return d.word(noLinks)
		case 1, 2, 3:
			return 0
		}
		return uint64(1 + d.roll(n))
	}
	for i := range n {
		p[at(i, kind)] = uint64(d.of(0, api.Endpoint, api.Ntfn, api.Ntfn, api.Thread, 1<<40))
		p[at(i, f1)] = uint64(d.of(0, 0, 0, 1, 2, 3, 4, 5, 6, 7, 21, api.MaxBadge, 1<<40))
		for _, field := range []int{f2, f3, f6} {
			p[at(i, field)] = link()
		}
		p[at(i, f5)] = uint64(d.roll(256)) + 256*link()
		if d.roll(20) == 0 {
			p[at(i, d.of(kind, f1, f2, f3, f4, f5, f6, f7))] = d.word(noLinks)
		}
	}
	return p
}

// anyCall does a call to words, and the same one to others as it is told here, and
// tells what it was.
func (d *dice) anyCall(t *testing.T, p view.Plain, want raw, n int) string {
	t.Helper()
	obj, i := d.number(n), d.number(n)
	noObj, noThread := obj < 0 || obj >= allObjs, i < 0 || i >= allObjs
	badge, bits := d.badge()
	switch d.roll(3) {
	case 0:
		if noObj {
			signals(t, "littered", p, obj, badge, api.ErrNone)
			return "signalled none"
		}
		what := want.signal(obj, bits)
		signals(t, "littered", p, obj, badge, nil)
		return what
	case 1:
		if noObj || noThread {
			waits(t, "littered", p, obj, i, 0, false, api.ErrNone)
			return "waits at none"
		}
		word, one := want.wait(obj, i)
		waits(t, "littered", p, obj, i, word, one, nil)
		return map[bool]string{false: "waits", true: "told"}[one]
	}
	if noObj {
		polls(t, "littered", p, obj, 0, api.ErrNone)
		return "polled of none"
	}
	word := want.poll(obj)
	polls(t, "littered", p, obj, word, nil)
	return map[bool]string{false: "polled none", true: "polled"}[word != 0]
}

// P16.1, P1 of the whole, R3: whatever the words, each call ends, and does what its
// promise says.
func TestLittered(t *testing.T) {
	var d dice
	seen := map[string]int{}
	for round := range 40000 {
		n := []int{2, 3, 6, 20, 32}[round%5]
		p := d.littered(n)
		want := raw(slices.Clone(p))
		for range 6 {
			what := d.anyCall(t, p, want, n)
			seen[what]++
			if !slices.Equal(p, view.Plain(want)) {
				t.Fatalf("round %d, %s: %v, of %v", round, what, view.Changed(view.Plain(want), p), view.Changed(p, view.Plain(want)))
			}
		}
	}
	for _, what := range []string{"signalled none", "signalled", "woken", "waits at none", "waits", "told",
		"polled of none", "polled none", "polled"} {
		if seen[what] < 1000 {
			t.Errorf("%s %d times", what, seen[what])
		}
	}
}

// P16.1, P1 of the whole: queues that run in a circle, of which the Ntfn itself may be one.
func TestCircles(t *testing.T) {
	for _, circle := range [][]int{{3}, {3, 1}, {anNtfn}, {anNtfn, 3}, {3, 1, 2, 0, 31}, {3, anNtfn, 1}} {
		for _, n := range []uint64{0, 5, 1 << 63} {
			p := begun().words()
			for k, i := range circle {
				ahead := append([]int{anNtfn}, circle...)[k]
				p[at(ahead, f2)] = uint64(i + 1)
				p[at(i, f1)], p[at(i, f5)] = endp.Waiting, 256*(anNtfn+1)
			}
			p[at(circle[len(circle)-1], f2)] = uint64(circle[0] + 1)
			p[at(anNtfn, f1)] = n
			want := raw(slices.Clone(p))
			for k := range 80 {
				switch i := []int{8, 3, anNtfn, 1, 9}[k%5]; k % 4 {
				case 0, 1:
					want.signal(anNtfn, k)
					signals(t, "in a circle", p, anNtfn, k, nil)
				case 2:
					word, one := want.wait(anNtfn, i)
					waits(t, "in a circle", p, anNtfn, i, word, one, nil)
				case 3:
					polls(t, "in a circle", p, anNtfn, want.poll(anNtfn), nil)
				}
				stays(t, "in a circle", p, view.Plain(want))
			}
		}
	}
}

// P16.1: one that waits at itself, as a thread and as an Ntfn by one number.
func TestItself(t *testing.T) {
	for _, i := range []int{0, 6, 31} {
		for _, word := range []int{0, 4} {
			p := filled()
			p[at(i, f1)], p[at(i, f3)] = uint64(word), 0
			want := raw(slices.Clone(p))
			for k := range 6 {
				n, one := want.wait(i, i)
				waits(t, "at itself", p, i, i, n, one, nil)
				stays(t, "at itself", p, view.Plain(want))
				want.signal(i, k)
				signals(t, "itself", p, i, k, nil)
				stays(t, "itself", p, view.Plain(want))
			}
			polls(t, "itself", p, i, want.poll(i), nil)
			stays(t, "of itself", p, view.Plain(want))
		}
	}
}

// P16.1, P1 of the whole: views that have fewer words than there are read 0 there, and
// nothing is written; of one that has more, those behind all stay.
func TestOtherViews(t *testing.T) {
	var d dice
	for _, words := range []int{0, 1, 480, 481, 482, 483, 484, 485, 486, 487, 488, 490, 493, 500, 600, 730, 735, 736, 737, 738, 739, 900} {
		for range 200 {
			all := append(d.littered(20), slices.Repeat([]uint64{1, 3, 6}, 60)...)
			p := all[:words:words]
			want, rest := raw(slices.Clone(p)), slices.Clone(all[words:])
			for range 4 {
				d.anyCall(t, p, want, 20)
				stays(t, "another view", p, view.Plain(want))
				stays(t, "behind another view", all[words:], rest)
			}
		}
	}
	var p view.Plain
	signals(t, "of no words", p, 0, 1, nil)
	signals(t, "of no words", p, 31, math.MaxInt, nil)
	signals(t, "of no words", p, 32, 1, api.ErrNone)
	waits(t, "of no words", p, 0, 31, 0, false, nil)
	waits(t, "of no words", p, 32, 31, 0, false, api.ErrNone)
	waits(t, "of no words", p, 31, -1, 0, false, api.ErrNone)
	polls(t, "of no words", p, 31, 0, nil)
	polls(t, "of no words", p, -1, 0, api.ErrNone)
}

// storeOf is a store of words.
func storeOf(t *testing.T, words view.Plain) *word.Store {
	t.Helper()
	s, err := word.New(len(words), api.MaxVersion)
	if err != nil {
		t.Fatal(err)
	}
	for i, w := range words {
		s.Set(i, w)
	}
	return s
}

// done is what a function does to words, as a record (layer 6) has it that learns
// a store's cells, and of how many cells.
func done(t *testing.T, words view.Plain, f func(v view.View)) (view.Plain, int) {
	t.Helper()
	s, r := storeOf(t, words), tx.New(len(words))
	for i, ok := r.Run(f); !ok; i, ok = r.Run(f) {
		c, _ := s.Read(i)
		r.Learn(i, c)
	}
	got := slices.Clone(words)
	for _, e := range r.Entries() {
		got[e.Cell] = e.New
	}
	return got, r.Reads()
}

// P16.1: of a view that isn't a plain one, a record, all comes to what a plain view
// does; of few cells.
func TestOfRecords(t *testing.T) {
	var d dice
	w := begun()
	w.blocks(anNtfn, 20, 0, 31)
	w.ends[otherNtfn].f1 = 21
	for range 300 {
		obj, i := d.of(anNtfn, otherNtfn, anEp, memory), d.of(someThreads...)
		badge, _ := d.badge()
		calls := []func(v view.View){
			func(v view.View) { Signal(v, obj, badge) },
			func(v view.View) { Wait(v, obj, i) },
			func(v view.View) { Poll(v, obj) },
		}
		for k, f := range calls {
			p := w.words()
			got, reads := done(t, p, f)
			f(p)
			stays(t, "of a record", got, p)
			if reads > 16 {
				t.Errorf("call %d reads %d cells", k, reads)
			}
		}
	}
}

// woken is how many threads are Ready with that word.
func woken(p view.Plain, word int) int {
	n := 0
	for _, i := range someThreads {
		if endp.State(p, i) == endp.Ready && p[at(i, f3)] == uint64(word) {
			n++
		}
	}
	return n
}

// P16.2: signalled and waited for by many at once (layer 8), in any order of steps, all
// comes to what is done one behind the other, in the log's order; what is told, and
// what is left, are just the bits that were signalled.
func TestAtOnce(t *testing.T) {
	const workers = 4
	var d dice
	told, wakings := 0, 0
	for range 300 {
		p := begun().words()
		var jobs [workers][]stm.Job
		var feeds []stm.Feed
		for worker := range jobs {
			i := someThreads[worker]
			for k := range 4 {
				obj, what := d.of(anNtfn, otherNtfn), d.roll(3)
				bit := 1 << (workers*k + worker) // of each job another one
				jobs[worker] = append(jobs[worker], func(v view.View) int {
					switch {
					case endp.State(v, i) != endp.Ready:
					case what == 0:
						Signal(v, obj, bit)
						return -bit
					case what == 1:
						r, _, _ := Wait(v, obj, i)
						return r.Word
					default:
						r, _ := Poll(v, obj)
						return r.Word
					}
					return 0
				})
			}
			feeds = append(feeds, stm.List(jobs[worker]))
		}
		s := storeOf(t, p)
		m, err := stm.New(s, feeds)
		if err != nil {
			t.Fatal(err)
		}
		for !m.Idle() {
			m.Step(d.roll(workers))
		}
		signalled, got := 0, 0
		for _, e := range m.Log() {
			if n := jobs[e.Worker][e.Job](p); n != e.Told {
				t.Fatalf("job %d of worker %d told %d, in the log's order %d", e.Job, e.Worker, e.Told, n)
			}
			got += max(e.Told, 0)
			told += min(max(e.Told, 0), 1)
			if e.Told < 0 {
				signalled -= e.Told
				n := woken(p, -e.Told)
				got, wakings = got-n*e.Told, wakings+n
			}
		}
		stays(t, "at once", s.Values(), p)
		for _, obj := range []int{anNtfn, otherNtfn} {
			got += int(p[at(obj, f1)])
		}
		if got != signalled {
			t.Fatalf("%b was signalled, %b told, or left", signalled, got)
		}
	}
	if told < 300 || wakings < 100 {
		t.Error("told, in all:", told, "to ones that waited:", wakings)
	}
}
