package tcb

import (
	"math"
	"slices"
	"testing"

	"padstone/api"
	"padstone/endp"
	"padstone/ntfn"
	"padstone/stm"
	"padstone/tx"
	"padstone/view"
	"padstone/word"
)

// dice are numbers from a short rule: the same ones in each run.
type dice uint64

func (d *dice) roll(n int) int {
	*d = *d*6364136223846793005 + 1442695040888963407
	return int(uint64(*d) >> 33 % uint64(n))
}

// of is one of a list.
func (d *dice) of(l ...int) int { return l[d.roll(len(l))] }

// word is one of a list of words.
func (d *dice) word(l []uint64) uint64 { return l[d.roll(len(l))] }

// number is one of the first n objects, or, now and then, what is none.
func (d *dice) number(n int) int {
	if d.roll(30) == 0 {
		return d.of(noObjs...)
	}
	return d.roll(n)
}

// priority is one, mostly, and whether it is.
func (d *dice) priority() (int, bool) {
	if d.roll(5) == 0 {
		return d.of(noPriorities...), false
	}
	return d.of(d.roll(256), d.roll(256), d.of(priorities...)), true
}

// rootFor is a capability, and whether it is a CNode that is fine in a world's words.
func (d *dice) rootFor() (api.Cap, bool) {
	switch d.roll(4) {
	case 0:
		l := mayNotBe()
		return l[d.roll(len(l))], false
	case 1:
		l := notFine()
		return l[d.roll(len(l))], false
	}
	bits := d.roll(9)
	return rootOf(d.of(node, great, small), d.roll(8), d.roll(1<<bits), bits), true
}

// wakes lets a thread be Ready, with a word and a badge.
func (w world) wakes(i, word, badge int) {
	x := w.threads[i]
	x.state, x.word, x.badge, x.on, x.owed = endp.Ready, word, badge, -1, -1
}

// first is the first one of an object's queue, if its F1 is that, or -1.
func (w world) first(obj, f1 int) int {
	if e := w.ends[obj]; e.f1 == f1 && len(e.queue) > 0 {
		return e.queue[0]
	}
	return -1
}

// sends is what endp.Send is to make of a world.
func (w world) sends(ep, i, word, badge int, call bool) {
	r := w.first(ep, 2)
	if r < 0 {
		w.blocks(ep, map[bool]int{false: endp.Sending, true: endp.Calling}[call], i)
		w.threads[i].word, w.threads[i].badge = word, badge
		return
	}
	w.leaves(r)
	w.wakes(r, word, badge)
	if call {
		w.owe(r, i)
	}
}

// receives is what endp.Recv is to make of a world, of one that owes no reply.
func (w world) receives(ep, i int) {
	s := w.first(ep, 1)
	if s < 0 {
		w.blocks(ep, endp.Receiving, i)
		return
	}
	called := w.threads[s].state == endp.Calling
	w.leaves(s)
	if called {
		w.owe(i, s)
	} else {
		w.wakes(s, 0, 0)
	}
}

// answers is what endp.Answer is to make of a world, of one that owes a reply.
func (w world) answers(i, word int) {
	w.wakes(w.threads[i].owes, word, 0)
	w.threads[i].owes = -1
}

// signals is what ntfn.Signal is to make of a world.
func (w world) signals(obj, badge int) {
	e := w.ends[obj]
	if len(e.queue) == 0 {
		e.f1 |= badge
		return
	}
	i := e.queue[0]
	w.leaves(i)
	w.wakes(i, badge, 0)
}

// waits is what ntfn.Wait is to make of a world.
func (w world) waits(obj, i int) {
	if w.ends[obj].f1 == 0 {
		w.blocks(obj, endp.Waiting, i)
	}
	w.ends[obj].f1 = 0
}

// below does a call of layers 15 and 16 of a thread that is Ready, to words and to a
// world, and tells its name.
func (d *dice) below(p view.Plain, w world, i int) string {
	ep, word, badge := d.of(anEp, otherEp), d.roll(1<<20), d.roll(1<<16)
	switch d.roll(8) {
	case 0, 1:
		call := d.roll(2) == 0
		endp.Send(p, ep, i, badge, word, call)
		w.sends(ep, i, word, badge, call)
		return "sent"
	case 2:
		if w.threads[i].owes < 0 {
			endp.Recv(p, ep, i)
			w.receives(ep, i)
			return "received"
		}
	case 3:
		ntfn.Signal(p, anNtfn, badge)
		w.signals(anNtfn, badge)
		return "signalled"
	case 4:
		ntfn.Wait(p, anNtfn, i)
		w.waits(anNtfn, i)
		return "waited"
	}
	if w.threads[i].owes < 0 {
		return "owes none"
	}
	endp.Answer(p, i, word)
	w.answers(i, word)
	return "answered"
}

// ours does a call of this layer to words and to a world, and tells what it was.
func (d *dice) ours(t *testing.T, p view.Plain, w world, i int) string {
	t.Helper()
	x := w.threads[i]
	name := []string{"Stopped", "Ready", "Sending", "Receiving", "Replying", "Waiting", "Calling"}[x.state]
	switch d.roll(6) {
	case 0:
		tells(t, "laws", Suspend(p, i), w.suspend(i))
		return "suspended, " + name
	case 1, 2:
		tells(t, "laws", Resume(p, i), w.resume(i))
		return "resumed, " + name
	case 3, 4:
		n, is := d.priority()
		if !is {
			tells(t, "laws", Prio(p, i, n), api.ErrArg)
			return "no priority"
		}
		tells(t, "laws", Prio(p, i, n), nil)
		x.prio = n
		return "a priority, " + name
	}
	c, fine := d.rootFor()
	if !fine {
		tells(t, "laws", SetRoot(p, i, c), api.ErrType)
		return "no root"
	}
	tells(t, "laws", SetRoot(p, i, c), nil)
	x.root = c
	return "a root, " + name
}

// P17.1, P17.2, P17.3: calls of many threads, between those of layers 15 and 16, one
// behind the other, as lists have it, word by word.
func TestLaws(t *testing.T) {
	var d dice
	seen := map[string]int{}
	for round := range 300 {
		w := begun()
		p := w.words()
		threads := someThreads[:2+d.roll(len(someThreads)-1)]
		for range 250 {
			i := d.of(threads...)
			what := "not Ready"
			if d.roll(4) == 0 {
				what = d.ours(t, p, w, i)
			} else if w.threads[i].state == endp.Ready {
				what = d.below(p, w, i)
			}
			seen[what]++
			like(t, what, p, w)
			if t.Failed() {
				t.Fatal("round", round)
			}
		}
	}
	for _, name := range []string{"Stopped", "Ready", "Sending", "Receiving", "Replying", "Waiting", "Calling"} {
		for _, what := range []string{"suspended, ", "resumed, ", "a priority, ", "a root, "} {
			if seen[what+name] < 50 {
				t.Errorf("%s%s %d times", what, name, seen[what+name])
			}
		}
	}
	for _, what := range []string{"no priority", "no root", "sent", "received", "signalled", "waited", "answered"} {
		if seen[what] < 300 {
			t.Errorf("%s %d times", what, seen[what])
		}
	}
}

// P17.3: suspended, and resumed, at any time, a thread is Ready, in no queue, and
// nobody waits for what it does; all others go on as if it had left.
func TestAnyTime(t *testing.T) {
	var d dice
	from := [7]int{}
	for range 3000 {
		w := begun()
		p := w.words()
		for range d.roll(60) {
			if i := d.of(someThreads...); w.threads[i].state == endp.Ready {
				d.below(p, w, i)
			}
		}
		for _, i := range someThreads {
			was := slices.Clone(p)
			from[w.threads[i].state]++
			tells(t, "suspended", Suspend(p, i), w.suspend(i))
			like(t, "suspended", p, w)
			tells(t, "resumed", Resume(p, i), w.resume(i))
			like(t, "resumed", p, w)
			for obj, e := range w.ends {
				if slices.Contains(e.queue, i) || p[at(i, f2)] != 0 {
					t.Errorf("%d is in the queue of %d", i, obj)
				}
			}
			if p[at(i, f5)]/256 != 0 || p[at(i, f6)] != was[at(i, f6)] || p[at(i, f7)] != was[at(i, f7)] {
				t.Errorf("%d is blocked on something, owes another one, or has another root", i)
			}
			if t.Failed() {
				t.FailNow()
			}
		}
	}
	for s := endp.Ready; s <= endp.Calling; s++ {
		if from[s] < 300 {
			t.Errorf("of state %d %d times", s, from[s])
		}
	}
}

// P17.2: of threads of any priorities, states, Kinds; of few priorities, too, so that
// many are alike.
func TestHighestLaws(t *testing.T) {
	var d dice
	seen := [33]int{}
	for round := range 40000 {
		n, most := 1+d.roll(32), []int{2, 3, 256}[round%3]
		p := filled()
		best, which := -1, 0
		for i := range n {
			prio, state := d.roll(most), d.of(endp.Ready, endp.Ready, endp.Ready, d.of(states...), d.of(others...))
			p[at(i, kind)], p[at(i, f1)], p[at(i, f5)] = api.Thread, uint64(state), uint64(prio+256*d.roll(34))
			if d.roll(3) == 0 {
				p[at(i, kind)] = d.word(noThreads)
				continue
			}
			if state == endp.Ready && prio > best {
				best, which = prio, i
			}
		}
		before := slices.Clone(p)
		highest(t, "of any", p, which, best >= 0)
		stays(t, "Highest", p, before)
		if best < 0 {
			which = 32
		}
		seen[which]++
	}
	for i, n := range seen {
		if n < 10 {
			t.Errorf("%d is the highest %d times", i, n)
		}
	}
}

// Words that no call left. What is to be done to them is told here once more, by
// numbers of words, but for Cancel, which is layer 15's.

// raw are such words.
type raw view.Plain

func (p raw) read(i, field int) uint64 { return view.Plain(p).Read(at(i, field)) }

func (p raw) get(i, field int) int {
	if w := p.read(i, field); w <= 1<<62 {
		return int(w)
	}
	return 0
}

func (p raw) put(i, field, n int) { view.Plain(p).Write(at(i, field), uint64(n)) }

func (p raw) suspend(i int) error {
	if p.get(i, f1) == 0 {
		return api.ErrState
	}
	endp.Cancel(view.Plain(p), i)
	return nil
}

func (p raw) resume(i int) error {
	if p.get(i, f1) != 0 {
		return api.ErrState
	}
	p.put(i, f1, 1)
	p.put(i, f3, 0)
	p.put(i, f4, 0)
	p.put(i, f5, p.get(i, f5)%256)
	return nil
}

func (p raw) setRoot(i int, c api.Cap) error {
	fine := c.Kind == 2 && c.Badge == 0 && 0 <= c.Rights && c.Rights < 8 && 0 <= c.Bits && c.Bits < 9 &&
		0 <= c.Guard && c.Guard < 1<<max(c.Bits, 0) && 0 <= c.Obj && c.Obj < 32
	if !fine || p.read(c.Obj, kind) != 2 {
		return api.ErrType
	}
	first, radix := p.get(c.Obj, f1), p.get(c.Obj, f2)
	if radix > 5 || first > 96 || first+1<<radix > 96 {
		return api.ErrType
	}
	p.put(i, f7, int(wordOfCap(c)))
	return nil
}

// root is the one capability whose word that is.
func (p raw) root(i int) api.Cap {
	w := p.read(i, f7)
	c := api.Cap{Kind: int(w % 16), Rights: int(w / 16 % 8), Obj: int(w / 128 % 32), Badge: int(w / 4096 % 65536),
		Bits: int(w / 4096 / 65536 % 16), Guard: int(w / 4096 / 65536 / 16)}
	badged, node := c.Kind == api.Endpoint || c.Kind == api.Ntfn, c.Kind == api.CNode
	if c.Kind == 0 || c.Kind > api.Irq || c.Badge > 0 && !badged || c.Bits+c.Guard > 0 && !node || c.Bits > 8 || c.Guard >= 1<<c.Bits {
		return api.Cap{}
	}
	return c
}

func (p raw) highest() (int, bool) {
	for prio := 255; prio >= 0; prio-- {
		for i := range allObjs {
			if p.read(i, kind) == 5 && p.get(i, f1) == 1 && p.get(i, f5)%256 == prio {
				return i, true
			}
		}
	}
	return 0, false
}

// littered are words in which the fields of the first n objects, most of which are
// Threads, tell any of them, or none, or nothing that is a number.
func (d *dice) littered(n int) view.Plain {
	p := filled()
	link := func() uint64 {
		switch d.roll(8) {
		case 0:
			return d.word(noLinks)
		case 1, 2, 3:
			return 0
		}
		return uint64(1 + d.roll(n))
	}
	for i := range n {
		p[at(i, kind)] = uint64(d.of(api.Thread, api.Thread, api.Thread, api.Endpoint, api.Ntfn, api.CNode, api.CNode, 0, 1<<40))
		p[at(i, f1)] = uint64(d.of(0, 0, 0, 1, 1, 2, 3, 4, 5, 6, 7, 21, 95, api.MaxBadge, 1<<40))
		for _, field := range []int{f2, f3, f6} {
			p[at(i, field)] = link()
		}
		p[at(i, f5)] = uint64(d.roll(256)) + 256*link()
		p[at(i, f7)] = wordOfCap(rootOf(d.roll(32), d.roll(8), d.roll(200), d.roll(10)))
		if d.roll(15) == 0 {
			p[at(i, d.of(kind, f1, f2, f3, f4, f5, f6, f7))] = d.word(noLinks)
		}
	}
	return p
}

// anyRoot is a capability of any CNode, or of what is none, or one that may not be.
func (d *dice) anyRoot(n int) api.Cap {
	bits := d.roll(9)
	c := rootOf(d.roll(n), d.roll(8), d.roll(1<<bits), bits)
	switch d.roll(12) {
	case 0:
		c.Kind = d.roll(10)
	case 1:
		c.Guard = d.roll(300)
	case 2:
		l := mayNotBe()
		return l[d.roll(len(l))]
	}
	return c
}

// anyCall does a call to words, and the same one to others as it is told here, and
// tells what it was.
func (d *dice) anyCall(t *testing.T, p view.Plain, want raw, n int) string {
	t.Helper()
	i := d.number(n)
	if i < 0 || i >= allObjs || want.read(i, kind) != api.Thread {
		none(t, "littered", p, i)
		return "none"
	}
	name := func(what string, err error) string {
		return map[bool]string{false: what, true: "no " + what}[err != nil]
	}
	switch d.roll(6) {
	case 0:
		err := want.suspend(i)
		tells(t, "littered", Suspend(p, i), err)
		return name("suspended", err)
	case 1:
		err := want.resume(i)
		tells(t, "littered", Resume(p, i), err)
		return name("resumed", err)
	case 2:
		to, is := d.priority()
		if !is {
			tells(t, "littered", Prio(p, i, to), api.ErrArg)
			return "no priority"
		}
		want.put(i, f5, want.get(i, f5)/256*256+to)
		tells(t, "littered", Prio(p, i, to), nil)
		return "priority"
	case 3:
		c := d.anyRoot(n)
		err := want.setRoot(i, c)
		tells(t, "littered", SetRoot(p, i, c), err)
		return name("root set", err)
	case 4:
		c := want.root(i)
		roots(t, "littered", p, i, c)
		return map[bool]string{false: "root", true: "no root"}[c == api.Cap{}]
	}
	best, is := want.highest()
	highest(t, "littered", p, best, is)
	return map[bool]string{false: "no highest", true: "highest"}[is]
}

// P17.1, P17.2, P1 of the whole, R3: whatever the words, each call ends, and does what
// its promise says.
func TestLittered(t *testing.T) {
	var d dice
	seen := map[string]int{}
	for round := range 40000 {
		n := []int{2, 3, 6, 20, 32}[round%5]
		p := d.littered(n)
		want := raw(slices.Clone(p))
		for range 6 {
			what := d.anyCall(t, p, want, n)
			seen[what]++
			if !slices.Equal(p, view.Plain(want)) || t.Failed() {
				t.Fatalf("round %d, %s: %v, of %v", round, what, view.Changed(view.Plain(want), p), view.Changed(p, view.Plain(want)))
			}
		}
	}
	for _, what := range []string{"none", "suspended", "no suspended", "resumed", "no resumed", "priority", "no priority",
		"root set", "no root set", "root", "no root", "highest", "no highest"} {
		if seen[what] < 1000 {
			t.Errorf("%s %d times", what, seen[what])
		}
	}
}

// P17.1, P1 of the whole: threads that wait at nothing, at themselves, at what is no
// Endpoint and no Ntfn, in queues that run in a circle.
func TestCircles(t *testing.T) {
	for _, circle := range [][]int{{3}, {3, 1}, {anEp}, {anEp, 3}, {3, 1, 2, 0, 31}, {3, anEp, 1}} {
		for _, s := range append(states, 7) {
			for _, on := range []uint64{0, anEp + 1, 4, memory + 1, node + 1, 24, 33, 1 << 55} {
				p := begun().words()
				for k, i := range circle {
					ahead := append([]int{anEp}, circle...)[k]
					p[at(ahead, f2)] = uint64(i + 1)
					p[at(i, f1)], p[at(i, f5)] = uint64(s), 256*on
				}
				p[at(circle[len(circle)-1], f2)] = uint64(circle[0] + 1)
				want := raw(slices.Clone(p))
				for _, i := range append(circle, 8, 3) {
					if want.read(i, kind) != api.Thread {
						none(t, "in a circle", p, i)
						continue
					}
					tells(t, "in a circle", Prio(p, i, 9), nil)
					want.put(i, f5, want.get(i, f5)/256*256+9)
					stays(t, "in a circle", p, view.Plain(want))
					tells(t, "in a circle", Suspend(p, i), want.suspend(i))
					stays(t, "in a circle", p, view.Plain(want))
					tells(t, "in a circle", Resume(p, i), want.resume(i))
					stays(t, "in a circle", p, view.Plain(want))
				}
			}
		}
	}
}

// P17.1: one that waits at itself, that is owed a reply by itself, or by what owes none.
func TestItself(t *testing.T) {
	for _, i := range []int{0, 3, 31} {
		for _, s := range append(states, 7) {
			for _, n := range []uint64{0, uint64(i + 1), 9, 33, 1 << 63} {
				w := begun()
				p := w.words()
				p[at(i, f1)], p[at(i, f2)], p[at(i, f6)] = uint64(s), n, n
				p[at(i, f5)] = uint64(256*(i+1) + 5)
				want := raw(slices.Clone(p))
				tells(t, "itself", Suspend(p, i), want.suspend(i))
				stays(t, "itself", p, view.Plain(want))
				if endp.State(p, i) != endp.Stopped {
					t.Errorf("%d, of state %d, isn't Stopped", i, s)
				}
				tells(t, "itself", Resume(p, i), want.resume(i))
				stays(t, "itself", p, view.Plain(want))
			}
		}
	}
}

// P17.1, P17.2, P1 of the whole: views that have fewer words than there are read 0
// there, and nothing is written; of one that has more, those behind all stay.
func TestOtherViews(t *testing.T) {
	var d dice
	for _, words := range []int{0, 1, 480, 481, 482, 483, 484, 485, 486, 487, 488, 490, 493, 495, 500, 600, 730, 735, 736, 737, 738, 739, 900} {
		for range 200 {
			all := append(d.littered(20), slices.Repeat([]uint64{5, 1, 6}, 60)...)
			p := all[:words:words]
			want, rest := raw(slices.Clone(p)), slices.Clone(all[words:])
			for range 4 {
				d.anyCall(t, p, want, 20)
				stays(t, "another view", p, view.Plain(want))
				stays(t, "behind another view", all[words:], rest)
			}
		}
	}
	var p view.Plain
	for _, i := range append([]int{0, 31}, noObjs...) {
		none(t, "of no words", p, i)
	}
	highest(t, "of no words", p, 0, false)
	// A Kind's word alone: all else is 0, and stays so.
	p = filled()[:at(3, kind)+1]
	p[at(3, kind)] = api.Thread
	before := slices.Clone(p)
	tells(t, "of a Kind alone", Suspend(p, 3), api.ErrState)
	tells(t, "of a Kind alone", Resume(p, 3), nil)
	tells(t, "of a Kind alone", Prio(p, 3, 5), nil)
	roots(t, "of a Kind alone", p, 3, api.Cap{})
	highest(t, "of a Kind alone", p, 0, false)
	stays(t, "of a Kind alone", p, before)
}

// storeOf is a store of words.
func storeOf(t *testing.T, words view.Plain) *word.Store {
	t.Helper()
	s, err := word.New(len(words), api.MaxVersion)
	if err != nil {
		t.Fatal(err)
	}
	for i, w := range words {
		s.Set(i, w)
	}
	return s
}

// done is what a function does to words, as a record (layer 6) has it that learns
// a store's cells, and of how many cells.
func done(t *testing.T, words view.Plain, f func(v view.View)) (view.Plain, int) {
	t.Helper()
	s, r := storeOf(t, words), tx.New(len(words))
	for i, ok := r.Run(f); !ok; i, ok = r.Run(f) {
		c, _ := s.Read(i)
		r.Learn(i, c)
	}
	got := slices.Clone(words)
	for _, e := range r.Entries() {
		got[e.Cell] = e.New
	}
	return got, r.Reads()
}

// P17.1, P17.2: of a view that isn't a plain one, a record, all comes to what a plain
// view does; of few cells.
func TestOfRecords(t *testing.T) {
	var d dice
	for range 300 {
		i, n := d.of(someThreads...), d.of(0, 9, 255, 256)
		c, _ := d.rootFor()
		best, root := 0, api.Cap{}
		calls := []func(v view.View){
			func(v view.View) { Suspend(v, i) },
			func(v view.View) { Resume(v, i) },
			func(v view.View) { Prio(v, i, n) },
			func(v view.View) { SetRoot(v, i, c) },
			func(v view.View) { root = Root(v, i) },
			func(v view.View) { best, _ = Highest(v) },
		}
		most := []int{40, 6, 2, 5, 2, 96}
		w := begun()
		for range d.roll(40) {
			if j := d.of(someThreads...); w.threads[j].state == endp.Ready {
				d.below(w.words(), w, j)
			}
		}
		for k, f := range calls {
			p := w.words()
			got, reads := done(t, p, f)
			toldBest, toldRoot := best, root
			f(p)
			stays(t, "of a record", got, p)
			if best != toldBest || root != toldRoot {
				t.Errorf("call %d tells %d, %v of a record, %d, %v of a plain view", k, toldBest, toldRoot, best, root)
			}
			if reads > most[k] {
				t.Errorf("call %d reads %d cells", k, reads)
			}
		}
	}
}

// atOnce is a job of a thread, some call of this layer or of those below it, which
// tells its error's code, or what it told.
func (d *dice) atOnce(i int) stm.Job {
	other, ep, n, call := d.of(someThreads[:5]...), d.of(anEp, otherEp), d.roll(256), d.roll(2) == 0
	c, _ := d.rootFor()
	code := func(err error) int {
		if err == nil {
			return 0
		}
		return int(err.(api.Code))
	}
	if what := d.roll(8); what < 5 {
		return []stm.Job{
			func(v view.View) int { return code(Suspend(v, other)) },
			func(v view.View) int { return code(Resume(v, other)) },
			func(v view.View) int { return code(Prio(v, other, n)) },
			func(v view.View) int { return code(SetRoot(v, other, c)) },
			func(v view.View) int { best, _ := Highest(v); return 100*best + Root(v, other).Rights },
		}[what]
	}
	what := d.roll(5)
	return func(v view.View) int {
		if endp.State(v, i) != endp.Ready {
			return 50
		}
		switch what {
		case 0, 1:
			endp.Send(v, ep, i, n, n, call)
		case 2:
			endp.Recv(v, ep, i)
		case 3:
			ntfn.Wait(v, anNtfn, i)
		case 4:
			endp.Answer(v, i, n)
		}
		return 60
	}
}

// P17.1, P17.2, P17.3: done by many at once (layer 8), in any order of steps, all comes
// to what is done one behind the other, in the log's order.
func TestAtOnce(t *testing.T) {
	const workers = 4
	var d dice
	told := map[int]int{}
	for range 300 {
		p := begun().words()
		var jobs [workers][]stm.Job
		var feeds []stm.Feed
		for worker := range jobs {
			for range 6 {
				jobs[worker] = append(jobs[worker], d.atOnce(someThreads[worker]))
			}
			feeds = append(feeds, stm.List(jobs[worker]))
		}
		s := storeOf(t, p)
		m, err := stm.New(s, feeds)
		if err != nil {
			t.Fatal(err)
		}
		for !m.Idle() {
			m.Step(d.roll(workers))
		}
		log := m.Log()
		if len(log) != workers*6 {
			t.Fatal("jobs that came to an end:", len(log))
		}
		for _, e := range log {
			if n := jobs[e.Worker][e.Job](p); n != e.Told {
				t.Fatalf("job %d of worker %d told %d, in the log's order %d", e.Job, e.Worker, e.Told, n)
			}
			told[min(e.Told, 100)]++
		}
		stays(t, "at once", s.Values(), p)
	}
	for _, n := range []int{0, int(api.ErrState), int(api.ErrType), 50, 60, 100} {
		if told[n] < 50 {
			t.Errorf("%d was told %d times", n, told[n])
		}
	}
}

// P17.1, R1: of several errors the one that the promise names first.
func TestOrder(t *testing.T) {
	w := begun()
	w.threads[3].state = endp.Stopped
	p := w.words()
	before := slices.Clone(p)
	for _, no := range append([]int{anEp, node, nothing, otherKind}, noObjs...) {
		for _, n := range append([]int{0, 255}, noPriorities...) {
			tells(t, "no thread, ahead of no priority", Prio(p, no, n), api.ErrNone)
		}
		for _, c := range append(notFine(), mayNotBe()...) {
			tells(t, "no thread, ahead of no root", SetRoot(p, no, c), api.ErrNone)
		}
	}
	for _, i := range []int{2, 3} {
		tells(t, "no priority", Prio(p, i, math.MinInt), api.ErrArg)
		tells(t, "no root, that may not be", SetRoot(p, i, api.Cap{Kind: api.CNode, Obj: 99}), api.ErrType)
	}
	tells(t, "Ready", Resume(p, 2), api.ErrState)
	tells(t, "Stopped", Suspend(p, 3), api.ErrState)
	stays(t, "errors", p, before)
}
