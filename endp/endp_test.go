package endp

import (
	"errors"
	"math"
	"slices"
	"testing"

	"padstone/api"
	"padstone/view"
)

// Words of objects, as layer 9's chapter counts them: eight an object, behind all slots.
const (
	objsAt   = 480
	objWords = 8
	kind     = 0
	f1       = 1
	f2       = 2
	f3       = 3
	f4       = 4
	f5       = 5
	f6       = 6
	f7       = 7
	allObjs  = 32
	allWords = 738
)

// at is the number of an object's word.
func at(obj, field int) int { return objsAt + objWords*obj + field }

// noObjs are numbers that no object has. Eight times some of them wraps round, to
// a word that is there.
var noObjs = []int{-1, -2, -8, -32, -33, -60, -61, -1 << 32, -1 << 60, -1<<61 + 3, -1 << 61, -1 << 62, -1<<62 + 5,
	math.MinInt + 1, math.MinInt, 32, 33, 34, 64, 96, 480, 737, 1 << 32, 1<<32 + 1, 1<<60 + 1, 1 << 61, 1<<61 + 3,
	1 << 62, 1<<62 + 5, math.MaxInt - 1, math.MaxInt}

// noLinks are words that tell no object; cut off, or as signed numbers, some would.
var noLinks = []uint64{0, 33, 34, 64, 96, 1 << 8, 1<<8 + 1, 1 << 16, 1<<16 + 1, 1 << 31, 1 << 32, 1<<32 + 1,
	1<<62 - 1, 1 << 62, 1<<62 + 1, 1<<63 - 1, 1 << 63, 1<<63 + 1, math.MaxUint64 - 1, math.MaxUint64}

// states are all states of threads, and waits those of a thread in a queue.
var (
	states = []int{Stopped, Ready, Sending, Receiving, Replying, Waiting, Calling}
	waits  = []int{Sending, Receiving, Waiting, Calling}
)

// end is an object that threads are blocked on: its kind, its F1, its queue.
type end struct {
	kind, f1 int
	queue    []int
}

// thread is what a thread has, but for its root. Of on, owes (whom it owes a reply),
// and owed (who owes it one) -1 is none.
type thread struct {
	state, word, badge, prio int
	on, owes, owed           int
}

// world are ends and threads, by their numbers.
type world struct {
	ends    map[int]*end
	threads map[int]*thread
}

// Ends of a world as it begins, and threads of it.
const (
	anEp    = 5
	anNtfn  = 6
	otherEp = 7
	memory  = 4
)

var someThreads = []int{0, 1, 2, 3, 8, 9, 10, 20, 30, 31}

// begun is a world of two Endpoints, an Ntfn, memory, and threads that are Ready,
// no two of which are alike.
func begun() world {
	w := world{map[int]*end{
		anEp: {kind: api.Endpoint}, otherEp: {kind: api.Endpoint},
		anNtfn: {kind: api.Ntfn, f1: 21}, memory: {kind: api.Untyped, f1: 40},
	}, map[int]*thread{}}
	for i, t := range someThreads {
		w.threads[t] = &thread{Ready, 5000 + t, 6000 + t, 255 - 28*i, -1, -1, -1}
	}
	return w
}

// filled are words in which no object's F2 tells a thread, each of the others
// unlike all of them.
func filled() view.Plain {
	p := make(view.Plain, allWords)
	for i := range p {
		p[i] = uint64(1000 + i)
	}
	for obj := range allObjs {
		p[at(obj, f2)] = 0
	}
	return p
}

// words are such in which that world is.
func (w world) words() view.Plain {
	p := filled()
	for i, x := range w.threads {
		p[at(i, f1)] = uint64(x.state)
		if x.state == Replying {
			p[at(i, f2)] = uint64(x.owed + 1)
		}
		p[at(i, f3)], p[at(i, f4)] = uint64(x.word), uint64(x.badge)
		p[at(i, f5)], p[at(i, f6)] = uint64(x.prio+256*(x.on+1)), uint64(x.owes+1)
	}
	for obj, e := range w.ends {
		p[at(obj, kind)], p[at(obj, f1)], p[at(obj, f3)] = uint64(e.kind), uint64(e.f1), 0
		ahead := obj
		for _, i := range e.queue {
			p[at(ahead, f2)], p[at(obj, f3)] = uint64(i+1), uint64(i+1)
			ahead = i
		}
	}
	return p
}

// blocks lets threads of a world wait on an object, in that state, behind those
// that are there.
func (w world) blocks(obj, state int, l ...int) {
	e := w.ends[obj]
	for _, i := range l {
		w.threads[i].state, w.threads[i].on = state, obj
		e.queue = append(slices.Clone(e.queue), i)
	}
	if len(l) > 0 && e.kind == api.Endpoint {
		e.f1 = map[int]int{Sending: 1, Calling: 1, Receiving: 2}[state]
	}
}

// leaves lets a thread leave its object's queue; an Endpoint that has none then, has nobody.
func (w world) leaves(i int) {
	x := w.threads[i]
	e := w.ends[x.on]
	e.queue = without(e.queue, i)
	if len(e.queue) == 0 && e.kind == api.Endpoint {
		e.f1 = 0
	}
	x.on = -1
}

// owe lets a thread owe a caller a reply.
func (w world) owe(i, caller int) {
	w.threads[i].owes = caller
	w.threads[caller].state, w.threads[caller].owed = Replying, i
}

// wakes lets a thread be Ready, with a word and a badge.
func (w world) wakes(i, word, badge int) {
	x := w.threads[i]
	x.state, x.word, x.badge, x.on, x.owed = Ready, word, badge, -1, -1
}

// without are a list's numbers but for one.
func without(l []int, n int) []int {
	return slices.DeleteFunc(slices.Clone(l), func(m int) bool { return m == n })
}

// upTo are the numbers from, from + 1, .. below to.
func upTo(from, to int) []int {
	var l []int
	for n := from; n < to; n++ {
		l = append(l, n)
	}
	return l
}

// stays holds that words are just those.
func stays(t *testing.T, what string, p, want view.Plain) {
	t.Helper()
	if !slices.Equal(p, want) {
		t.Errorf("%s: words unlike those that are to be: %v, of %v", what, view.Changed(want, p), view.Changed(p, want))
	}
}

// tells holds an error, itself, against what it is to be.
func tells(t *testing.T, what string, err, want error) {
	t.Helper()
	if !errors.Is(err, want) || want == nil && err != nil {
		t.Errorf("%s: %v, want %v", what, err, want)
	}
	if c, ok := err.(api.Code); err != nil && (!ok || c != want) {
		t.Errorf("%s: %v isn't the Code itself", what, err)
	}
}

// message is what one sends.
type message struct {
	badge, word int
	call        bool
}

// sends holds what Send tells against what it is to tell.
func sends(t *testing.T, what string, v view.View, ep, i int, m message, waits bool, want error) {
	t.Helper()
	is, err := Send(v, ep, i, m.badge, m.word, m.call)
	tells(t, what, err, want)
	if is != waits {
		t.Errorf("%s: %d, that sends to %d, waits: %v", what, i, ep, is)
	}
}

// receives holds what Recv tells against what it is to tell: a word, a badge, and
// whether there was one.
func receives(t *testing.T, what string, v view.View, ep, i, word, badge int, one bool, want error) {
	t.Helper()
	r, is, err := Recv(v, ep, i)
	tells(t, what, err, want)
	if is != one || r != (api.Reply{Word: word, Badge: badge}) {
		t.Errorf("%s: %d received of %d: %v, %v, want word %d, badge %d, %v", what, i, ep, r, is, word, badge, one)
	}
}

// like holds words against a world's, and what State and On tell of all its threads.
func like(t *testing.T, what string, p view.Plain, w world) {
	t.Helper()
	for i, x := range w.threads {
		if s := State(p, i); s != x.state {
			t.Errorf("%s: state of %d: %d, want %d", what, i, s, x.state)
		}
		if on, ok := On(p, i); on != max(x.on, 0) || ok != (x.on >= 0) {
			t.Errorf("%s: %d is blocked on %d, %v, want %d", what, i, on, ok, x.on)
		}
	}
	stays(t, what, p, w.words())
}

// The chapter's example.
func TestExample(t *testing.T) {
	p := make(view.Plain, allWords)
	sends(t, "with none that receives", p, 5, 0, message{2, 7, false}, true, nil)
	receives(t, "behind it", p, 5, 1, 7, 2, true, nil)
}

// P15.1, P15.2: one call behind the other, each word by word, as numbers.
func TestWords(t *testing.T) {
	p, want := make(view.Plain, allWords), make(view.Plain, allWords)
	set := func(obj int, l ...int) {
		for i, n := range l {
			want[at(obj, 1+i)] = uint64(n)
		}
	}
	p[at(5, kind)], want[at(5, kind)] = api.Endpoint, api.Endpoint
	p[at(1, f5)], p[at(2, f5)] = 255, 9
	set(1, 0, 0, 0, 0, 255)
	set(2, 0, 0, 0, 0, 9)

	sends(t, "the first", p, 5, 0, message{3, 7, false}, true, nil)
	set(0, 2, 0, 7, 3, 6*256, 0)
	set(5, 1, 1, 1)
	stays(t, "the first sends", p, want)
	sends(t, "the second", p, 5, 1, message{4, 8, true}, true, nil)
	set(0, 2, 2)
	set(1, 6, 0, 8, 4, 6*256+255, 0)
	set(5, 1, 1, 2)
	stays(t, "the second calls", p, want)
	receives(t, "of the first", p, 5, 2, 7, 3, true, nil)
	set(0, 1, 0, 0, 0, 0, 0)
	set(5, 1, 2, 2)
	stays(t, "the first one's is received", p, want)
	receives(t, "of the second", p, 5, 2, 8, 4, true, nil)
	set(1, 4, 3, 8, 4, 255, 0)
	set(2, 0, 0, 0, 0, 9, 2)
	set(5, 0, 0, 0)
	stays(t, "the second one's is received", p, want)
	tells(t, "the second", Answer(p, 2, 70), nil)
	set(1, 1, 0, 70, 0, 255, 0)
	set(2, 0, 0, 0, 0, 9, 0)
	stays(t, "the second is answered", p, want)
	receives(t, "none", p, 5, 2, 0, 0, false, nil)
	set(2, 3, 0, 0, 0, 6*256+9, 0)
	set(5, 2, 3, 3)
	stays(t, "it receives", p, want)
	sends(t, "one that receives", p, 5, 31, message{5, 9, true}, true, nil)
	set(2, 1, 0, 9, 5, 9, 32)
	set(31, 4, 3, 0, 0, 0, 0)
	set(5, 0, 0, 0)
	stays(t, "it has received a call", p, want)
	Cancel(p, 31)
	set(2, 1, 0, 9, 5, 9, 0)
	set(31, 0, 0, 0, 0, 0, 0)
	stays(t, "who called is Stopped", p, want)
	Wake(p, 31, 3, 4)
	set(31, 1, 0, 3, 4, 0, 0)
	stays(t, "it is woken", p, want)
	Block(p, 6, 31, Waiting)
	set(31, 5, 0, 3, 4, 7*256, 0)
	set(6, 0, 32, 32)
	stays(t, "it is blocked", p, want)
}

// P15.1, P15.2, R3, P1 of the whole: of objects that there aren't, as either, none
// does anything.
func TestNone(t *testing.T) {
	w := begun()
	w.blocks(anEp, Sending, 0, 1)
	w.blocks(otherEp, Receiving, 2, 3)
	w.blocks(anNtfn, Waiting, 31)
	w.owe(8, 9)
	before := append(w.words(), filled()...)
	p := slices.Clone(before)
	for _, no := range noObjs {
		for _, i := range append(upTo(0, allObjs), noObjs...) {
			for _, call := range []bool{false, true} {
				sends(t, "no Endpoint", p, no, i, message{1, 2, call}, false, api.ErrNone)
				sends(t, "no thread", p, i, no, message{1, 2, call}, false, api.ErrNone)
			}
			receives(t, "no Endpoint", p, no, i, 0, 0, false, api.ErrNone)
			receives(t, "no thread", p, i, no, 0, 0, false, api.ErrNone)
			for _, s := range append([]int{-1, 7, math.MaxInt}, states...) {
				Block(p, no, i, s)
				Block(p, i, no, s)
			}
		}
		tells(t, "no thread", Answer(p, no, 5), api.ErrNone)
		Cancel(p, no)
		Wake(p, no, 5, 6)
		if State(p, no) != 0 {
			t.Error("state of none:", no)
		}
		if on, ok := On(p, no); on != 0 || ok {
			t.Error("none is blocked on", on, ok)
		}
	}
	stays(t, "none", p, before)
}

// P15.1, P15.2: the first object and the last one, as Endpoint and as thread, of
// any kind.
func TestEnds(t *testing.T) {
	for _, x := range [][3]int{{0, 31, 1}, {31, 0, 30}, {30, 31, 0}, {1, 0, 31}} {
		ep, a, b := x[0], x[1], x[2]
		for _, k := range []int{api.Endpoint, 0, api.Thread, 1 << 40} {
			w := begun()
			delete(w.threads, ep)
			w.ends[ep] = &end{kind: k}
			p := w.words()
			sends(t, "the ends", p, ep, a, message{3, 4, true}, true, nil)
			w.blocks(ep, Calling, a)
			w.ends[ep].f1, w.threads[a].word, w.threads[a].badge = 1, 4, 3
			like(t, "the ends call", p, w)
			receives(t, "the ends", p, ep, b, 4, 3, true, nil)
			w.leaves(a)
			w.ends[ep].f1 = 0
			w.owe(b, a)
			like(t, "the ends owe", p, w)
			tells(t, "the ends", Answer(p, b, 8), nil)
			w.threads[b].owes = -1
			w.wakes(a, 8, 0)
			like(t, "the ends are answered", p, w)
			receives(t, "the ends", p, ep, b, 0, 0, false, nil)
			w.blocks(ep, Receiving, b)
			w.ends[ep].f1 = 2
			like(t, "the ends receive", p, w)
			Cancel(p, b)
			w.leaves(b)
			w.threads[b].state, w.ends[ep].f1 = Stopped, 0
			like(t, "the ends are Stopped", p, w)
		}
	}
}

// P15.1: a message to one that receives, the first one of those that wait.
func TestSendReceived(t *testing.T) {
	for _, l := range [][]int{{1}, {31}, {1, 2}, {20, 0, 31, 1}, without(someThreads, 3)} {
		for _, call := range []bool{false, true} {
			for _, ep := range []int{anEp, otherEp} {
				w := begun()
				w.blocks(ep, Receiving, l...)
				w.blocks(anNtfn, Waiting)
				p := w.words()
				sends(t, "one receives", p, ep, 3, message{12, 13, call}, call, nil)
				w.leaves(l[0])
				w.wakes(l[0], 13, 12)
				if call {
					w.owe(l[0], 3)
				}
				like(t, "one receives", p, w)
			}
		}
	}
}

// P15.1: messages one behind the other, to several that receive, and then to none.
func TestSendMany(t *testing.T) {
	w := begun()
	l := []int{20, 0, 31, 1}
	w.blocks(anEp, Receiving, l...)
	p := w.words()
	for k, i := range l {
		from := []int{2, 3, 8, 9}[k]
		m := message{300 + k, 400 + k, k%2 == 0}
		sends(t, "one of several", p, anEp, from, m, m.call, nil)
		w.leaves(i)
		w.wakes(i, m.word, m.badge)
		if m.call {
			w.owe(i, from)
		}
		like(t, "one of several", p, w)
	}
	sends(t, "none is left", p, anEp, 10, message{7, 8, false}, true, nil)
	w.blocks(anEp, Sending, 10)
	w.threads[10].word, w.threads[10].badge = 8, 7
	like(t, "none is left", p, w)
}

// P15.1: a message to none that receives: of nobody, and behind others that send.
func TestSendWaits(t *testing.T) {
	for _, before := range []int{Sending, Calling} {
		for _, l := range [][]int{nil, {1}, {1, 2}, {20, 0, 31, 1}} {
			for _, call := range []bool{false, true} {
				w := begun()
				w.blocks(anEp, before, l...)
				w.blocks(otherEp, Receiving, 8, 9)
				p := w.words()
				sends(t, "none receives", p, anEp, 3, message{12, 13, call}, true, nil)
				w.blocks(anEp, map[bool]int{false: Sending, true: Calling}[call], 3)
				w.threads[3].word, w.threads[3].badge = 13, 12
				like(t, "none receives", p, w)
			}
		}
	}
}

// P15.1: of those that send, and call, in turn, each is received, in the order in
// which they came, until there is none.
func TestRecv(t *testing.T) {
	for _, kinds := range [][]int{{Sending}, {Calling}, {Sending, Sending}, {Calling, Calling},
		{Sending, Calling, Sending, Calling}, {Calling, Sending, Calling, Sending}} {
		w := begun()
		from, to := []int{31, 0, 20, 1}, []int{2, 3, 8, 9}
		for k, s := range kinds {
			w.blocks(anEp, s, from[k])
		}
		w.blocks(anNtfn, Waiting, 30)
		p := w.words()
		for k, s := range kinds {
			i := from[k]
			receives(t, "one sends", p, anEp, to[k], 5000+i, 6000+i, true, nil)
			w.leaves(i)
			if s == Calling {
				w.owe(to[k], i)
			} else {
				w.wakes(i, 0, 0)
			}
			like(t, "one sends", p, w)
		}
		for _, i := range []int{10, 3, 8, 9} {
			if w.threads[i].owes < 0 {
				receives(t, "none sends", p, anEp, i, 0, 0, false, nil)
				w.blocks(anEp, Receiving, i)
				like(t, "none sends", p, w)
			}
		}
	}
}

// P15.1: with none that sends: of nobody, and behind others that receive.
func TestRecvWaits(t *testing.T) {
	for _, l := range [][]int{nil, {1}, {1, 2}, {20, 0, 31, 1}} {
		w := begun()
		w.blocks(anEp, Receiving, l...)
		w.blocks(otherEp, Sending, 8, 9)
		p := w.words()
		receives(t, "none sends", p, anEp, 3, 0, 0, false, nil)
		w.blocks(anEp, Receiving, 3)
		like(t, "none sends", p, w)
	}
}

// P15.1, R1, R3: one that owes a reply doesn't receive, whoever waits; of no
// Endpoint that is told first.
func TestRecvOwes(t *testing.T) {
	for _, s := range []int{-1, Sending, Calling, Receiving} {
		for _, caller := range []int{0, 31, 3} {
			w := begun()
			if s >= 0 {
				w.blocks(anEp, s, 1, 2)
			}
			w.owe(3, caller)
			p := w.words()
			receives(t, "one that owes", p, anEp, 3, 0, 0, false, api.ErrState)
			receives(t, "one that owes", p, otherEp, 3, 0, 0, false, api.ErrState)
			for _, no := range noObjs {
				receives(t, "one that owes, of none", p, no, 3, 0, 0, false, api.ErrNone)
			}
			like(t, "one that owes", p, w)
		}
	}
	// Who is owed one may.
	w := begun()
	w.threads[8].owes = 3
	w.blocks(anEp, Sending, 1)
	p := w.words()
	receives(t, "one that is owed", p, anEp, 3, 5001, 6001, true, nil)
	w.leaves(1)
	w.wakes(1, 0, 0)
	like(t, "one that is owed", p, w)
}

// P15.1: F6 tells whom one owes a reply only if there is such a thread.
func TestOwesNone(t *testing.T) {
	for _, no := range noLinks {
		w := begun()
		w.blocks(anEp, Sending, 1)
		p := w.words()
		p[at(3, f6)] = no
		before := slices.Clone(p)
		tells(t, "owes none", Answer(p, 3, 5), api.ErrState)
		stays(t, "owes none", p, before)
		receives(t, "owes none", p, anEp, 3, 5001, 6001, true, nil)
		w.leaves(1)
		w.wakes(1, 0, 0)
		want := w.words()
		want[at(3, f6)] = no
		stays(t, "owes none", p, want)
	}
}

// P15.2: who is owed a reply is answered, once; of one that owes none, and of none,
// an error.
func TestAnswer(t *testing.T) {
	for _, x := range [][2]int{{0, 31}, {31, 0}, {1, 2}, {20, 20}} {
		for _, word := range []int{0, 1, 99, api.MaxWord} {
			w := begun()
			w.owe(x[0], x[1])
			w.owe(8, 9)
			w.blocks(anEp, Calling, 3)
			p := w.words()
			tells(t, "owes one", Answer(p, x[0], word), nil)
			w.threads[x[0]].owes = -1
			w.wakes(x[1], word, 0)
			like(t, "owes one", p, w)
			for _, i := range without(someThreads, 8) {
				tells(t, "owes none", Answer(p, i, word), api.ErrState)
			}
			like(t, "owes none", p, w)
		}
	}
}

// P15.2: of whatever state, a thread that is owed a reply is told it; what it owes
// itself stays.
func TestAnswerWhoOwes(t *testing.T) {
	w := begun()
	w.owe(1, 2)
	w.owe(2, 3)
	p := w.words()
	tells(t, "one that waits, too", Answer(p, 2, 4), nil)
	w.threads[2].owes = -1
	w.wakes(3, 4, 0)
	like(t, "one that waits, too", p, w)
	tells(t, "the other one", Answer(p, 1, 5), nil)
	w.threads[1].owes = -1
	w.wakes(2, 5, 0)
	like(t, "the other one", p, w)
}

// P15.2: one that waits in a queue leaves it, wherever it is; the others stay.
func TestCancelWaits(t *testing.T) {
	for _, s := range waits {
		for _, obj := range []int{anEp, anNtfn, memory} {
			for _, l := range [][]int{{1}, {1, 2}, {1, 2, 0}, {31, 0, 20, 1, 2}} {
				for _, i := range l {
					w := begun()
					w.blocks(obj, s, l...)
					w.blocks(otherEp, Calling, 8)
					w.threads[i].owes = 9
					w.threads[9].state, w.threads[9].owed = Replying, i
					p := w.words()
					Cancel(p, i)
					w.leaves(i)
					w.threads[i].state = Stopped
					like(t, "one that waits", p, w)
					Cancel(p, i)
					like(t, "one that waits, again", p, w)
				}
			}
		}
	}
}

// P15.2: one behind the other, all leave: then there is nobody.
func TestCancelAll(t *testing.T) {
	for _, s := range []int{Sending, Receiving, Calling} {
		w := begun()
		l := []int{31, 0, 20, 1, 2}
		w.blocks(anEp, s, l...)
		p := w.words()
		for _, k := range []int{2, 0, 3, 1, 4} {
			Cancel(p, l[k])
			w.leaves(l[k])
			w.threads[l[k]].state = Stopped
			like(t, "one of all", p, w)
		}
		if w.ends[anEp].f1 != 0 {
			t.Error("all have left")
		}
		receives(t, "behind all", p, anEp, 3, 0, 0, false, nil)
		w.blocks(anEp, Receiving, 3)
		like(t, "behind all", p, w)
	}
}

// P15.2: one that is Stopped, or Ready, is Stopped; one that waits for a reply is
// owed none any more; what it owes itself, its word, its badge stay.
func TestCancelOthers(t *testing.T) {
	for _, s := range []int{Stopped, Ready, Replying} {
		for _, owes := range []int{-1, 8, 3} {
			for _, owed := range []int{0, 31, 2} {
				w := begun()
				w.threads[3].owes = owes
				w.threads[8].state, w.threads[8].owed = Replying, 3
				if s == Replying {
					w.owe(owed, 3)
				}
				w.threads[3].state = s
				p := w.words()
				Cancel(p, 3)
				w.threads[3].state = Stopped
				if s == Replying {
					w.threads[owed].owes = -1
				}
				like(t, "one in no queue", p, w)
				if s == Replying {
					tells(t, "who owed it a reply", Answer(p, owed, 4), api.ErrState)
				}
				like(t, "one in no queue", p, w)
			}
		}
	}
}

// P15.2: one that owes a reply, and is Stopped, owes it still.
func TestCancelOwes(t *testing.T) {
	w := begun()
	w.owe(3, 8)
	p := w.words()
	Cancel(p, 3)
	w.threads[3].state = Stopped
	like(t, "one that owes", p, w)
	tells(t, "Stopped, it owes", Answer(p, 3, 77), nil)
	w.threads[3].owes = -1
	w.wakes(8, 77, 0)
	like(t, "Stopped, it owes", p, w)
}

// P15.2: F1 of what is no Endpoint stays, whatever its threads' states, and that of
// an Endpoint doesn't, whatever they are.
func TestCancelF1(t *testing.T) {
	for _, s := range waits {
		for _, k := range []int{api.Untyped, api.Ntfn, api.Thread, api.Irq, api.Endpoint} {
			for _, n := range []int{3, 21, 40, api.MaxBadge} {
				w := begun()
				w.ends[11] = &end{kind: k, f1: n}
				w.blocks(11, s, 0, 1)
				w.ends[11].f1 = n
				p := w.words()
				for _, i := range []int{1, 0} {
					Cancel(p, i)
					w.leaves(i)
					w.threads[i].state = Stopped
					like(t, "of any kind", p, w)
				}
			}
		}
	}
}

// P15.2: a thread is blocked, on any object, in any state, behind those there; F1
// stays, and its word, its badge, its priority, what it owes.
func TestBlock(t *testing.T) {
	for _, s := range append([]int{7, 8, 1 << 40}, states...) {
		for _, obj := range []int{anEp, anNtfn, memory, otherEp} {
			for _, l := range [][]int{nil, {1}, {31, 0}} {
				w := begun()
				w.blocks(anEp, Receiving, l...)
				w.threads[3].owes = 8
				p := w.words()
				Block(p, obj, 3, s)
				x := w.threads[3]
				x.state, x.on = s, obj
				w.ends[obj].queue = append(slices.Clone(w.ends[obj].queue), 3)
				want := w.words()
				if s == Replying { // in a queue: F2 tells none behind it
					want[at(3, f2)] = 0
				}
				stays(t, "blocked", p, want)
				if State(p, 3) != s {
					t.Error("blocked, its state is", State(p, 3))
				}
				if on, ok := On(p, 3); on != obj || !ok {
					t.Error("blocked on", on, ok)
				}
			}
		}
	}
}

// P15.2: a thread of any state is Ready, blocked on nothing, with that word and badge.
func TestWake(t *testing.T) {
	for _, s := range []int{Stopped, Ready, Replying, 7, 1 << 40} {
		for _, owes := range []int{-1, 8, 3} {
			w := begun()
			w.owe(31, 20)
			x := w.threads[3]
			x.state, x.owes, x.owed = s, owes, 2
			p := w.words()
			Wake(p, 3, 14, 15)
			w.wakes(3, 14, 15)
			like(t, "in no queue", p, w)
		}
	}
}

// P15.2: of one in a queue: the queue is as it was.
func TestWakeInQueue(t *testing.T) {
	for _, s := range waits {
		for _, obj := range []int{anEp, anNtfn, memory} {
			for _, i := range []int{31, 0, 1} {
				w := begun()
				w.blocks(obj, s, 31, 0, 1)
				p := w.words()
				Wake(p, i, 14, 15)
				w.wakes(i, 14, 15)
				like(t, "in a queue", p, w)
			}
		}
	}
}

// P15.2: a state is F1, whatever the kind, and all else.
func TestState(t *testing.T) {
	for _, i := range []int{0, 1, 7, 30, 31} {
		for _, w := range []uint64{0, 1, 2, 3, 4, 5, 6, 7, 255, 1 << 32, 1 << 62} {
			p := filled()
			p[at(i, f1)] = w
			before := slices.Clone(p)
			if s := State(p, i); s != int(w) {
				t.Errorf("state of %d: %d, want %d", i, s, w)
			}
			stays(t, "State", p, before)
		}
		for _, w := range []uint64{1<<62 + 1, 1 << 63, 1<<63 + 1, math.MaxUint64} {
			p := filled()
			p[at(i, f1)] = w
			if s := State(p, i); s != 0 {
				t.Errorf("state of %d: %d, of a word that is none", i, s)
			}
		}
	}
}

// P15.2: what one is blocked on, whatever its priority; of what is no object, none.
func TestOn(t *testing.T) {
	for _, i := range []int{0, 1, 7, 30, 31} {
		p := filled()
		on := func(w uint64, want int) {
			t.Helper()
			p[at(i, f5)] = w
			before := slices.Clone(p)
			if obj, ok := On(p, i); obj != max(want, 0) || ok != (want >= 0) {
				t.Errorf("F5 %d: blocked on %d, %v, want %d", w, obj, ok, want)
			}
			stays(t, "On", p, before)
		}
		for _, prio := range []uint64{0, 1, 31, 128, 255} {
			on(prio, -1)
			for obj := range allObjs {
				on(prio+256*uint64(obj+1), obj)
			}
			for _, no := range []uint64{33, 34, 64, 256, 257, 1 << 32, 1<<32 + 1, 1<<54 - 1} {
				on(prio+256*no, -1)
			}
			for _, no := range []uint64{1 << 54, 1<<54 + 1, 1 << 55, 1<<55 + 3, 1<<56 - 1} {
				on(prio+256*no, -1)
			}
		}
		on(1<<62, -1)
		on(math.MaxUint64, -1)
	}
}

// P15.1, P15.2: priorities stay, of all that are blocked and woken.
func TestPriority(t *testing.T) {
	for _, prio := range []int{0, 1, 127, 128, 254, 255} {
		w := begun()
		for _, x := range w.threads {
			x.prio = prio
		}
		p := w.words()
		prios := func(what string) {
			t.Helper()
			for i := range w.threads {
				if n := p[at(i, f5)] % 256; n != uint64(prio) {
					t.Errorf("%s: priority of %d: %d, want %d", what, i, n, prio)
				}
			}
		}
		sends(t, "priority", p, anEp, 0, message{1, 2, true}, true, nil)
		sends(t, "priority", p, anEp, 31, message{1, 2, false}, true, nil)
		prios("send")
		receives(t, "priority", p, anEp, 1, 2, 1, true, nil)
		receives(t, "priority", p, anEp, 2, 2, 1, true, nil)
		prios("receive")
		receives(t, "priority", p, anEp, 3, 0, 0, false, nil)
		tells(t, "priority", Answer(p, 1, 2), nil)
		prios("answered")
		sends(t, "priority", p, anEp, 8, message{1, 2, true}, true, nil)
		Cancel(p, 8)
		Block(p, anNtfn, 9, Waiting)
		prios("blocked")
		Cancel(p, 9)
		Wake(p, 20, 1, 1)
		prios("all")
	}
}

// P15.1, P15.2: words and badges, as great as a field may tell them; of one that it
// can't tell 0 is told, not what was there.
func TestNumbers(t *testing.T) {
	for _, n := range []int{0, 1, 255, api.MaxBadge, api.MaxWord, api.MaxWord + 1, 1<<62 - 1, 1 << 62,
		1<<62 + 1, math.MaxInt, -1, -2, math.MinInt} {
		want := n
		if n < 0 || n > 1<<62 {
			want = 0
		}
		for _, m := range []message{{n, 5, false}, {5, n, false}, {n, n, true}} {
			word, badge := m.word, m.badge
			if word == n {
				word = want
			}
			if badge == n {
				badge = want
			}
			p := begun().words()
			sends(t, "any number", p, anEp, 0, m, true, nil)
			receives(t, "any number", p, anEp, 1, word, badge, true, nil)
			receives(t, "none", p, anEp, 2, 0, 0, false, nil)
			sends(t, "any number", p, anEp, 3, m, m.call, nil)
			has(t, "received", p, 2, word, badge)
			Wake(p, 8, m.word, m.badge)
			has(t, "woken", p, 8, word, badge)
		}
		w := begun()
		w.owe(1, 2)
		p := w.words()
		tells(t, "any number", Answer(p, 1, n), nil)
		has(t, "answered", p, 2, want, 0)
	}
}

// has holds a thread's word and badge against what they are to be, of words above
// 2^62 those that tell nothing.
func has(t *testing.T, what string, p view.Plain, i, word, badge int) {
	t.Helper()
	number := func(w uint64) int {
		if w > 1<<62 {
			return 0
		}
		return int(w)
	}
	if a, b := number(p[at(i, f3)]), number(p[at(i, f4)]); a != word || b != badge {
		t.Errorf("%s: %d has word %d, badge %d, want %d, %d", what, i, a, b, word, badge)
	}
}

// P15.1: one that sends to itself, and that receives of itself: by all words it is
// another one.
func TestItself(t *testing.T) {
	for _, call := range []bool{false, true} {
		w := begun()
		w.blocks(anEp, Receiving, 3, 8)
		p := w.words()
		sends(t, "to itself", p, anEp, 3, message{5, 6, call}, call, nil)
		w.leaves(3)
		w.wakes(3, 6, 5)
		if call {
			w.owe(3, 3)
		}
		like(t, "to itself", p, w)
		if call {
			tells(t, "to itself", Answer(p, 3, 9), nil)
			w.threads[3].owes = -1
			w.wakes(3, 9, 0)
			like(t, "answers itself", p, w)
		}

		w = begun()
		w.blocks(anEp, map[bool]int{false: Sending, true: Calling}[call], 3, 8)
		p = w.words()
		receives(t, "of itself", p, anEp, 3, 5003, 6003, true, nil)
		w.leaves(3)
		if call {
			w.owe(3, 3)
		} else {
			w.wakes(3, 0, 0)
		}
		like(t, "of itself", p, w)
		Cancel(p, 3)
		w.threads[3].state, w.threads[3].owes = Stopped, -1
		like(t, "Stopped", p, w)
	}
}
