package endp

import (
	"math"
	"slices"
	"testing"

	"padstone/api"
	"padstone/queue"
	"padstone/stm"
	"padstone/tx"
	"padstone/view"
	"padstone/word"
)

// dice are numbers from a short rule: the same ones in each run.
type dice uint64

func (d *dice) roll(n int) int {
	*d = *d*6364136223846793005 + 1442695040888963407
	return int(uint64(*d) >> 33 % uint64(n))
}

// of is one of a list.
func (d *dice) of(l ...int) int { return l[d.roll(len(l))] }

// word is one of a list of words.
func (d *dice) word(l []uint64) uint64 { return l[d.roll(len(l))] }

// number is one of a list of objects, or, now and then, what is none.
func (d *dice) number(l ...int) int {
	if d.roll(30) == 0 {
		return d.of(noObjs...)
	}
	return d.of(l...)
}

// first is the first one of an Endpoint's queue, if its F1 is that, or -1.
func (w world) first(ep, f1 int) int {
	if e := w.ends[ep]; e.f1 == f1 && len(e.queue) > 0 {
		return e.queue[0]
	}
	return -1
}

// send is what Send is to tell, and make of a world, of an Endpoint and a thread of it.
func (w world) send(ep, i int, m message) bool {
	r := w.first(ep, 2)
	if r < 0 {
		w.blocks(ep, map[bool]int{false: Sending, true: Calling}[m.call], i)
		w.threads[i].word, w.threads[i].badge = m.word, m.badge
		return true
	}
	w.leaves(r)
	w.wakes(r, m.word, m.badge)
	if m.call {
		w.owe(r, i)
	}
	return m.call
}

// recv is what Recv is to tell, a word, a badge, and whether there was one, and make of a world.
func (w world) recv(ep, i int) (int, int, bool, error) {
	if w.threads[i].owes >= 0 {
		return 0, 0, false, api.ErrState
	}
	s := w.first(ep, 1)
	if s < 0 {
		w.blocks(ep, Receiving, i)
		return 0, 0, false, nil
	}
	word, badge, called := w.threads[s].word, w.threads[s].badge, w.threads[s].state == Calling
	w.leaves(s)
	if called {
		w.owe(i, s)
	} else {
		w.wakes(s, 0, 0)
	}
	return word, badge, true, nil
}

// answer is what Answer is to tell, and make of a world.
func (w world) answer(i, word int) error {
	caller := w.threads[i].owes
	if caller < 0 {
		return api.ErrState
	}
	w.threads[i].owes = -1
	w.wakes(caller, word, 0)
	return nil
}

// cancel is what Cancel is to make of a world.
func (w world) cancel(i int) {
	x := w.threads[i]
	if x.on >= 0 {
		w.leaves(i)
	}
	if x.state == Replying {
		w.threads[x.owed].owes = -1
		x.owed = -1
	}
	x.state = Stopped
}

// sound holds that each thread is in the queue of what it is blocked on, and in no
// other one, that none is owed a reply but by one that owes it, and that nobody
// waits where there is none.
func (w world) sound(t *testing.T, p view.Plain) {
	t.Helper()
	for obj, e := range w.ends {
		l := queue.List(p, obj)
		if !slices.Equal(l, e.queue) {
			t.Fatalf("queue of %d: %v, want %v", obj, l, e.queue)
		}
		if e.kind == api.Endpoint && (len(l) == 0) != (e.f1 == 0) {
			t.Fatalf("%v wait at %d, F1 is %d", l, obj, e.f1)
		}
		for _, i := range l {
			if on, ok := On(p, i); on != obj || !ok {
				t.Fatalf("%d waits at %d, blocked on %d, %v", i, obj, on, ok)
			}
		}
	}
	for i := range w.threads {
		if State(p, i) != Replying {
			continue
		}
		if owner := int(p[at(i, f2)]) - 1; owner < 0 || int(p[at(owner, f6)])-1 != i {
			t.Fatalf("%d waits for a reply of %d", i, owner)
		}
	}
}

// P15.1, P15.2: calls of many threads, one behind the other, as lists have it, word
// by word; only who is Ready calls.
func TestLaws(t *testing.T) {
	var d dice
	seen := map[string]int{}
	for round := range 150 {
		w := begun()
		p := w.words()
		threads := someThreads[:2+d.roll(len(someThreads)-1)]
		for range 250 {
			ep, i := d.of(anEp, anEp, otherEp), d.of(threads...)
			x := w.threads[i]
			m := message{d.roll(9), d.roll(1 << 20), d.roll(2) == 0}
			switch what := d.roll(12); {
			case x.state == Stopped && what < 6:
				Wake(p, i, m.word, m.badge)
				w.wakes(i, m.word, m.badge)
				seen["woken"]++
			case what == 0:
				seen[[]string{"Stopped", "Ready", "Sending", "Receiving", "Replying", "Waiting", "Calling"}[x.state]]++
				Cancel(p, i)
				w.cancel(i)
			case x.state != Ready:
			case what < 4:
				waits := w.send(ep, i, m)
				sends(t, "laws", p, ep, i, m, waits, nil)
				seen[map[bool]string{false: "sent", true: "sends"}[waits]]++
			case what < 8:
				word, badge, one, err := w.recv(ep, i)
				receives(t, "laws", p, ep, i, word, badge, one, err)
				seen[map[bool]string{false: "receives", true: "received"}[one]]++
			case what < 11:
				err := w.answer(i, m.word)
				tells(t, "laws", Answer(p, i, m.word), err)
				seen[map[bool]string{false: "owed none", true: "answered"}[err == nil]]++
			default:
				Block(p, anNtfn, i, Waiting)
				w.blocks(anNtfn, Waiting, i)
			}
			like(t, "laws", p, w)
			w.sound(t, p)
			if t.Failed() {
				t.Fatal("round", round)
			}
		}
	}
	for _, what := range []string{"woken", "Ready", "Sending", "Receiving", "Replying", "Waiting", "Calling", "sent",
		"sends", "receives", "received", "owed none", "answered"} {
		if seen[what] < 100 {
			t.Errorf("%s %d times", what, seen[what])
		}
	}
}

// P15.3: each message is received once, by one, in the order in which they came to
// an Endpoint; who called is answered once, by whom it called.
func TestOnce(t *testing.T) {
	var d dice
	all, answers := 0, 0
	for range 400 {
		p := begun().words()
		sent := map[int][]int{}          // of each Endpoint, the words that none has received
		byWhom := map[int]int{}          // of each that waits for a reply, whom it called
		from := map[int]int{}            // of a word, who called with it
		inbox, receiving := 0, [32]int{} // where who receives does, one more
		got := func(ep, i, word int) {
			if len(sent[ep]) == 0 || sent[ep][0] != word {
				t.Fatalf("%d received %d of %d, of which %v were sent", i, word, ep, sent[ep])
			}
			sent[ep] = sent[ep][1:]
			inbox++
			if caller, ok := from[word]; ok {
				byWhom[caller] = i
			}
		}
		next := 1
		for range 400 {
			ep, i := d.of(anEp, otherEp), d.of(someThreads...)
			if State(p, i) != Ready {
				continue
			}
			if receiving[i] > 0 {
				got(receiving[i]-1, i, int(p[at(i, f3)]))
				receiving[i] = 0
			}
			switch d.roll(3) {
			case 0:
				m := message{0, next, d.roll(2) == 0}
				next++
				if m.call {
					from[m.word] = i
				}
				sent[ep] = append(sent[ep], m.word)
				if _, err := Send(p, ep, i, m.badge, m.word, m.call); err != nil {
					t.Fatal(err)
				}
				// It is received at once by who waits: look there ahead of all else.
				for r := range receiving {
					if receiving[r] > 0 && State(p, r) == Ready {
						got(receiving[r]-1, r, int(p[at(r, f3)]))
						receiving[r] = 0
					}
				}
				all++
			case 1:
				r, one, err := Recv(p, ep, i)
				if owes := p[at(i, f6)] > 0; err != nil && !owes {
					t.Fatal(i, "owes none:", err)
				}
				if one {
					got(ep, i, r.Word)
				} else if err == nil {
					receiving[i] = ep + 1
				}
			case 2:
				word := -1
				for caller, by := range byWhom {
					if by == i {
						word = caller
					}
				}
				err := Answer(p, i, 1000000+next)
				if (err == nil) != (word >= 0) {
					t.Fatalf("%d answers: %v, it was called by %d", i, err, word)
				}
				if err != nil {
					break
				}
				if State(p, word) != Ready || p[at(word, f3)] != uint64(1000000+next) {
					t.Fatalf("%d isn't answered by %d", word, i)
				}
				delete(byWhom, word)
				answers++
			}
			for caller, by := range byWhom {
				if State(p, caller) != Replying || p[at(by, f6)] != uint64(caller+1) {
					t.Fatalf("%d isn't owed a reply by %d", caller, by)
				}
			}
		}
		if left := len(sent[anEp]) + len(sent[otherEp]); inbox+left != next-1 {
			t.Errorf("of %d messages %d were received, and %d wait", next-1, inbox, left)
		}
	}
	if all < 5000 || answers < 500 {
		t.Error(all, "messages,", answers, "answers")
	}
}

// Words that no call left. What is to be done to them is told here once more, by
// numbers of words.

// raw are such words.
type raw view.Plain

func (p raw) get(i, field int) int {
	if i < 0 || i >= allObjs {
		return 0
	}
	if w := view.Plain(p).Read(at(i, field)); w <= 1<<62 {
		return int(w)
	}
	return 0
}

func (p raw) put(i, field, n int) {
	if i >= 0 && i < allObjs {
		view.Plain(p).Write(at(i, field), uint64(n))
	}
}

// ref is the object that a field tells, or -1.
func (p raw) ref(i, field int) int {
	if n := p.get(i, field); n <= allObjs {
		return n - 1
	}
	return -1
}

func (p raw) on(i int) int {
	if n := p.get(i, f5) / 256; n <= allObjs {
		return n - 1
	}
	return -1
}

func (p raw) setOn(i, n int) { p.put(i, f5, p.get(i, f5)%256+256*n) }

func (p raw) wake(i, word, badge int) {
	if p.get(i, f1) == Replying {
		p.put(i, f2, 0)
	}
	p.put(i, f1, Ready)
	p.setOn(i, 0)
	p.put(i, f3, word)
	p.put(i, f4, badge)
}

func (p raw) block(obj, i, state int) {
	p.put(i, f1, state)
	p.setOn(i, obj+1)
	queue.Push(view.Plain(p), obj, i)
}

// pop is the first one that waits at what has F1 n, or -1.
func (p raw) pop(ep, n int) int {
	if p.get(ep, f1) != n || len(queue.List(view.Plain(p), ep)) == 0 {
		return -1
	}
	i, _ := queue.Pop(view.Plain(p), ep)
	p.settle(ep)
	return i
}

func (p raw) settle(ep int) {
	if len(queue.List(view.Plain(p), ep)) == 0 {
		p.put(ep, f1, 0)
	}
}

func (p raw) owe(i, caller int) {
	p.put(caller, f1, Replying)
	p.put(caller, f2, i+1)
	p.put(i, f6, caller+1)
}

func (p raw) send(ep, i int, m message) bool {
	r := p.pop(ep, 2)
	if r < 0 {
		p.put(i, f3, m.word)
		p.put(i, f4, m.badge)
		p.block(ep, i, map[bool]int{false: Sending, true: Calling}[m.call])
		p.put(ep, f1, 1)
		return true
	}
	p.wake(r, m.word, m.badge)
	if m.call {
		p.owe(r, i)
	}
	return m.call
}

func (p raw) recv(ep, i int) (int, int, bool, error) {
	if p.ref(i, f6) >= 0 {
		return 0, 0, false, api.ErrState
	}
	s := p.pop(ep, 1)
	if s < 0 {
		p.block(ep, i, Receiving)
		p.put(ep, f1, 2)
		return 0, 0, false, nil
	}
	word, badge := p.get(s, f3), p.get(s, f4)
	if p.get(s, f1) == Sending {
		p.wake(s, 0, 0)
	} else if p.get(s, f1) == Calling {
		p.setOn(s, 0)
		p.owe(i, s)
	}
	return word, badge, true, nil
}

func (p raw) answer(i, word int) error {
	caller := p.ref(i, f6)
	if caller < 0 {
		return api.ErrState
	}
	p.wake(caller, word, 0)
	p.put(i, f6, 0)
	return nil
}

func (p raw) cancel(i int) {
	switch s := p.get(i, f1); {
	case s == Replying:
		if owner := p.ref(i, f2); owner >= 0 && p.ref(owner, f6) == i {
			p.put(owner, f6, 0)
		}
		p.put(i, f2, 0)
	case slices.Contains(waits, s) && p.on(i) >= 0:
		obj := p.on(i)
		is := p.get(obj, kind) == api.Endpoint || map[int]int{Sending: 1, Calling: 1, Receiving: 2}[s] == p.get(obj, f1)
		queue.Remove(view.Plain(p), obj, i)
		if is {
			p.settle(obj)
		}
	}
	p.put(i, f1, Stopped)
	p.setOn(i, 0)
}

// littered are words in which the fields of the first n objects tell any of them,
// or none, or nothing that is a number.
func (d *dice) littered(n int) view.Plain {
	p := filled()
	link := func() uint64 {
		switch d.roll(8) {
		case 0:
			return d.word(noLinks)
		case 1, 2:
			return 0
		}
		return uint64(1 + d.roll(n))
	}
	for i := range n {
		p[at(i, kind)] = uint64(d.of(0, api.Endpoint, api.Endpoint, api.Ntfn, api.Thread, 1<<40))
		p[at(i, f1)] = uint64(d.of(0, 1, 1, 2, 2, 3, 4, 4, 5, 6, 6, 7, 21))
		for _, field := range []int{f2, f3, f6} {
			p[at(i, field)] = link()
		}
		p[at(i, f5)] = uint64(d.roll(256)) + 256*link()
		if d.roll(20) == 0 {
			p[at(i, d.of(kind, f1, f2, f3, f4, f5, f6, f7))] = d.word(noLinks)
		}
	}
	return p
}

// anyCall does a call to words, and the same one to others as it is told here, and
// tells what it was.
func (d *dice) anyCall(t *testing.T, p view.Plain, want raw, n int) string {
	t.Helper()
	ep, i := d.number(upTo(0, n)...), d.number(upTo(0, n)...)
	no := ep < 0 || ep >= allObjs || i < 0 || i >= allObjs
	m := message{d.roll(9), d.roll(1 << 20), d.roll(2) == 0}
	switch d.roll(6) {
	case 0:
		if no {
			sends(t, "littered", p, ep, i, m, false, api.ErrNone)
			return "sent nothing"
		}
		waits := want.send(ep, i, m)
		sends(t, "littered", p, ep, i, m, waits, nil)
		return map[bool]string{false: "sent", true: "sends"}[waits]
	case 1:
		if no {
			receives(t, "littered", p, ep, i, 0, 0, false, api.ErrNone)
			return "received nothing"
		}
		word, badge, one, err := want.recv(ep, i)
		receives(t, "littered", p, ep, i, word, badge, one, err)
		return map[bool]string{false: "receives", true: "received"}[one]
	case 2:
		if i < 0 || i >= allObjs {
			tells(t, "littered", Answer(p, i, m.word), api.ErrNone)
			return "answered nothing"
		}
		err := want.answer(i, m.word)
		tells(t, "littered", Answer(p, i, m.word), err)
		return map[bool]string{false: "owed none", true: "answered"}[err == nil]
	case 3:
		want.cancel(i)
		Cancel(p, i)
		return "cancelled"
	case 4:
		s := d.of(states...)
		if !no {
			want.block(ep, i, s)
		}
		Block(p, ep, i, s)
		return "blocked"
	}
	want.wake(i, m.word, m.badge)
	Wake(p, i, m.word, m.badge)
	return "woken"
}

// P15.1, P15.2, P1 of the whole, R3: whatever the words, each call ends, and does
// what its promise says.
func TestLittered(t *testing.T) {
	var d dice
	seen := map[string]int{}
	for round := range 40000 {
		n := []int{2, 3, 6, 20, 32}[round%5]
		p := d.littered(n)
		want := raw(slices.Clone(p))
		for range 6 {
			what := d.anyCall(t, p, want, n)
			seen[what]++
			if !slices.Equal(p, view.Plain(want)) {
				t.Fatalf("round %d, %s: %v, of %v", round, what, view.Changed(view.Plain(want), p), view.Changed(p, view.Plain(want)))
			}
			i := d.roll(n)
			if s := State(p, i); s != want.get(i, f1) {
				t.Fatalf("round %d: state %d", round, s)
			}
			if on, ok := On(p, i); on != max(want.on(i), 0) || ok != (want.on(i) >= 0) {
				t.Fatalf("round %d: on %d, %v", round, on, ok)
			}
		}
	}
	for _, what := range []string{"sent nothing", "sent", "sends", "received nothing", "receives", "received",
		"answered nothing", "owed none", "answered", "cancelled", "blocked", "woken"} {
		if seen[what] < 1000 {
			t.Errorf("%s %d times", what, seen[what])
		}
	}
}

// P15.1: an Endpoint that has senders, or receivers, or what is neither, and an empty
// queue: none waits there.
func TestEmptyQueue(t *testing.T) {
	for _, n := range []uint64{0, 1, 2, 3, 255, 1 << 32, 1<<32 + 2, 1 << 62, 1<<63 + 2, math.MaxUint64} {
		for _, first := range noLinks {
			for _, call := range []bool{false, true} {
				w := begun()
				p := w.words()
				p[at(anEp, f1)], p[at(anEp, f2)] = n, first
				sends(t, "to an empty queue", p, anEp, 3, message{4, 5, call}, true, nil)
				w.blocks(anEp, map[bool]int{false: Sending, true: Calling}[call], 3)
				w.threads[3].word, w.threads[3].badge = 5, 4
				like(t, "to an empty queue", p, w)
			}
			w := begun()
			p := w.words()
			p[at(anEp, f1)], p[at(anEp, f2)] = n, first
			receives(t, "of an empty queue", p, anEp, 3, 0, 0, false, nil)
			w.blocks(anEp, Receiving, 3)
			like(t, "of an empty queue", p, w)
		}
	}
}

// P15.2: one that isn't in the queue that it is blocked on; if that is empty, nobody
// waits there.
func TestCancelNotThere(t *testing.T) {
	for _, s := range []int{Sending, Receiving, Calling} {
		w := begun()
		w.blocks(anEp, s, 3)
		w.ends[anEp].queue = nil
		p := w.words()
		Cancel(p, 3)
		w.threads[3].state, w.threads[3].on, w.ends[anEp].f1 = Stopped, -1, 0
		like(t, "not there", p, w)

		w = begun()
		w.blocks(anEp, s, 1, 2, 3)
		w.ends[anEp].queue = []int{1, 2}
		p = w.words()
		Cancel(p, 3)
		w.threads[3].state, w.threads[3].on = Stopped, -1
		like(t, "not there, others are", p, w)

		w = begun()
		w.blocks(anEp, s, 1, 2, 3)
		p = w.words()
		for _, no := range []uint64{0, 33, 64, 1 << 40, 1 << 54} {
			q := slices.Clone(p)
			q[at(2, f5)] = uint64(w.threads[2].prio) + 256*no
			want := slices.Clone(q)
			want[at(2, f1)], want[at(2, f5)] = Stopped, uint64(w.threads[2].prio)
			if no == 1<<54 {
				want[at(2, f5)] = 0 // above 2^62, F5 tells no number, and no priority
			}
			Cancel(q, 2)
			stays(t, "on no object", q, want)
		}
	}
}

// P15.2: one that waits for a reply of one that owes another one its own, or none;
// those go on owing it.
func TestCancelOwedByNone(t *testing.T) {
	for _, owner := range []int{0, 3, 31} {
		for _, owes := range []int{-1, 8, 9} {
			w := begun()
			w.threads[3].state, w.threads[3].owed = Replying, owner
			w.threads[owner].owes = owes
			p := w.words()
			Cancel(p, 3)
			w.threads[3].state = Stopped
			like(t, "owed by none", p, w)
		}
	}
	for _, no := range noLinks {
		w := begun()
		w.threads[3].state, w.threads[3].owed = Replying, -1
		w.threads[31].owes = 3
		p := w.words()
		p[at(3, f2)] = no
		Cancel(p, 3)
		w.threads[3].state = Stopped
		like(t, "owed by no thread", p, w)
	}
}

// P15.2: one that owes a reply to one that doesn't wait for it: that one is woken
// nevertheless, once; a queue that it is in stays.
func TestAnswerOthers(t *testing.T) {
	for _, s := range states {
		w := begun()
		w.blocks(anEp, Sending, 1, 2, 3)
		w.threads[2].state = s
		w.threads[8].owes = 2
		p := w.words()
		p[at(2, f2)] = 4
		tells(t, "of any state", Answer(p, 8, 6), nil)
		w.wakes(2, 6, 0)
		w.threads[8].owes = -1
		want := w.words()
		if s == Replying {
			want[at(2, f2)] = 0
		}
		stays(t, "of any state", p, want)
		tells(t, "of any state, again", Answer(p, 8, 6), api.ErrState)
		stays(t, "of any state, again", p, want)
	}
}

// P15.1: a queue of threads of other states: F1 tells who waits. Only who was
// Sending is woken, and only who was Calling is owed a reply.
func TestOtherStates(t *testing.T) {
	for _, s := range []int{Stopped, Ready, Receiving, Replying, Waiting, 7} {
		w := begun()
		w.blocks(anEp, Sending, 3, 8)
		p := w.words()
		p[at(3, f1)] = uint64(s)
		receives(t, "neither sends nor calls", p, anEp, 9, 5003, 6003, true, nil)
		w.ends[anEp].queue = []int{8}
		want := w.words()
		want[at(3, f1)], want[at(3, f2)] = uint64(s), 0
		stays(t, "neither sends nor calls", p, want)
	}
	for _, s := range states {
		w := begun()
		w.blocks(anEp, Receiving, 3)
		p := w.words()
		p[at(3, f1)] = uint64(s)
		sends(t, "whatever it does", p, anEp, 9, message{1, 2, false}, false, nil)
		w.leaves(3)
		w.wakes(3, 2, 1)
		like(t, "whatever it does", p, w)
	}
}

// P15.1, P15.2, P1 of the whole: queues that run in a circle.
func TestCircles(t *testing.T) {
	for _, circle := range [][]int{{3}, {3, 1}, {anEp}, {anEp, 3}, {3, 1, 2, 0, 31}} {
		for _, n := range []int{0, 1, 2} {
			p := begun().words()
			p[at(anEp, f1)] = uint64(n)
			for k, i := range circle {
				ahead := append([]int{anEp}, circle...)[k]
				p[at(ahead, f2)] = uint64(i + 1)
				if i != anEp {
					p[at(i, f1)], p[at(i, f5)] = Calling, 256*(anEp+1)
				}
			}
			p[at(circle[len(circle)-1], f2)] = uint64(circle[0] + 1)
			want := raw(slices.Clone(p))
			for k := range 60 {
				ep, i, m := anEp, []int{8, 3, anEp, 1, 9}[k%5], message{k, k, k%2 == 0}
				switch k % 4 {
				case 0:
					sends(t, "in a circle", p, ep, i, m, want.send(ep, i, m), nil)
				case 1:
					word, badge, one, err := want.recv(ep, i)
					receives(t, "in a circle", p, ep, i, word, badge, one, err)
				case 2:
					tells(t, "in a circle", Answer(p, i, k), want.answer(i, k))
				case 3:
					Cancel(p, i)
					want.cancel(i)
				}
				stays(t, "in a circle", p, view.Plain(want))
			}
		}
	}
}

// P15.1, P15.2, P1 of the whole: views that have fewer words than there are read 0
// there, and nothing is written; of one that has more, those behind all stay.
func TestOtherViews(t *testing.T) {
	var d dice
	for _, words := range []int{0, 1, 480, 481, 482, 483, 484, 485, 486, 487, 488, 490, 493, 500, 600, 730, 735, 736, 737, 738, 739, 900} {
		for range 200 {
			all := append(d.littered(20), slices.Repeat([]uint64{1, 3, 6}, 60)...)
			p := all[:words:words]
			want, rest := raw(slices.Clone(p)), slices.Clone(all[words:])
			for range 4 {
				d.anyCall(t, p, want, 20)
				stays(t, "another view", p, view.Plain(want))
				stays(t, "behind another view", all[words:], rest)
			}
		}
	}
	var p view.Plain
	sends(t, "of no words", p, 0, 31, message{1, 2, true}, true, nil)
	sends(t, "of no words", p, 0, 32, message{1, 2, true}, false, api.ErrNone)
	receives(t, "of no words", p, 0, 31, 0, 0, false, nil)
	receives(t, "of no words", p, 32, 31, 0, 0, false, api.ErrNone)
	tells(t, "of no words", Answer(p, 31, 1), api.ErrState)
	tells(t, "of no words", Answer(p, 32, 1), api.ErrNone)
	Cancel(p, 0)
	Block(p, 0, 1, Waiting)
	Wake(p, 0, 1, 2)
	if on, ok := On(p, 0); State(p, 0) != 0 || on != 0 || ok {
		t.Error("of no words", on, ok)
	}
}

// storeOf is a store of words.
func storeOf(t *testing.T, words view.Plain) *word.Store {
	t.Helper()
	s, err := word.New(len(words), api.MaxVersion)
	if err != nil {
		t.Fatal(err)
	}
	for i, w := range words {
		s.Set(i, w)
	}
	return s
}

// done is what a function does to words, as a record (layer 6) has it that learns
// a store's cells, and of how many cells.
func done(t *testing.T, words view.Plain, f func(v view.View)) (view.Plain, int) {
	t.Helper()
	s, r := storeOf(t, words), tx.New(len(words))
	for i, ok := r.Run(f); !ok; i, ok = r.Run(f) {
		c, _ := s.Read(i)
		r.Learn(i, c)
	}
	got := slices.Clone(words)
	for _, e := range r.Entries() {
		got[e.Cell] = e.New
	}
	return got, r.Reads()
}

// P15.1, P15.2: of a view that isn't a plain one, a record, all comes to what a plain
// view does; of few cells.
func TestOfRecords(t *testing.T) {
	var d dice
	w := begun()
	w.blocks(anEp, Calling, 20, 0, 31)
	w.blocks(otherEp, Receiving, 1, 2)
	w.blocks(anNtfn, Waiting, 30)
	w.owe(8, 9)
	for range 400 {
		ep, i := d.of(anEp, otherEp, anNtfn, memory), d.of(someThreads...)
		m := message{d.roll(9), d.roll(99), d.roll(2) == 0}
		calls := []func(v view.View){
			func(v view.View) { Send(v, ep, i, m.badge, m.word, m.call) },
			func(v view.View) { Recv(v, ep, i) },
			func(v view.View) { Answer(v, i, m.word) },
			func(v view.View) { Cancel(v, i) },
			func(v view.View) { Block(v, ep, i, Waiting) },
			func(v view.View) { Wake(v, i, m.word, m.badge) },
			func(v view.View) { State(v, i); On(v, i) },
		}
		for k, f := range calls {
			p := w.words()
			got, reads := done(t, p, f)
			f(p)
			stays(t, "of a record", got, p)
			if reads > 20 {
				t.Errorf("call %d reads %d cells", k, reads)
			}
		}
	}
}

// P15.3: sent, received, answered by many at once (layer 8), in any order of steps, all
// comes to what is done one behind the other, in the log's order; each message is
// received once.
func TestAtOnce(t *testing.T) {
	var d dice
	received := 0
	for range 300 {
		w := begun()
		p := w.words()
		var jobs [4][]stm.Job
		var feeds []stm.Feed
		sent := map[int]bool{}
		for worker := range jobs {
			i := someThreads[worker]
			for k := range 8 {
				ep, what := d.of(anEp, otherEp), d.roll(5)
				m := message{worker, 1000 + 10*worker + k, d.roll(3) == 0}
				sent[m.word] = true
				jobs[worker] = append(jobs[worker], func(v view.View) int {
					if State(v, i) != Ready {
						return -1
					}
					switch what {
					case 0, 1:
						Send(v, ep, i, m.badge, m.word, m.call)
						return 1
					case 2:
						if Answer(v, i, m.word+5000) == nil {
							return 2
						}
					case 3:
						Cancel(v, someThreads[(worker+1)%4])
						return 3
					}
					if r, ok, _ := Recv(v, ep, i); ok {
						return r.Word
					}
					return 4
				}, func(v view.View) int {
					if State(v, i) == Stopped {
						Wake(v, i, 0, 0)
					}
					return State(v, i)
				})
			}
			feeds = append(feeds, stm.List(jobs[worker]))
		}
		s := storeOf(t, p)
		m, err := stm.New(s, feeds)
		if err != nil {
			t.Fatal(err)
		}
		for !m.Idle() {
			m.Step(d.roll(4))
		}
		got := map[int]bool{}
		for _, e := range m.Log() {
			if n := jobs[e.Worker][e.Job](p); n != e.Told {
				t.Fatalf("job %d of worker %d told %d, in the log's order %d", e.Job, e.Worker, e.Told, n)
			}
			if e.Told >= 1000 {
				if received++; got[e.Told] || !sent[e.Told] {
					t.Errorf("%d is received twice, or was never sent", e.Told)
				}
				got[e.Told] = true
			}
		}
		stays(t, "at once", s.Values(), p)
	}
	if received < 100 {
		t.Error("received, in all:", received)
	}
}
