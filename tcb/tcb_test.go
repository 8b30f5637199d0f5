package tcb

import (
	"errors"
	"math"
	"slices"
	"testing"

	"padstone/api"
	"padstone/endp"
	"padstone/lay"
	"padstone/queue"
	"padstone/view"
)

// Words of objects, as layer 9's chapter counts them: eight an object, behind all slots.
const (
	objsAt   = 480
	objWords = 8
	kind     = 0
	f1       = 1
	f2       = 2
	f3       = 3
	f4       = 4
	f5       = 5
	f6       = 6
	f7       = 7
	allObjs  = 32
	allWords = 738
)

// at is the number of an object's word.
func at(obj, field int) int { return objsAt + objWords*obj + field }

// noObjs are numbers that no object has. Eight times some of them wraps round, to
// a word that is there.
var noObjs = []int{-1, -2, -8, -32, -33, -60, -61, -1 << 32, -1 << 60, -1<<61 + 3, -1 << 61, -1 << 62, -1<<62 + 5,
	math.MinInt + 1, math.MinInt, 32, 33, 34, 64, 96, 480, 737, 1 << 32, 1<<32 + 1, 1<<60 + 1, 1 << 61, 1<<61 + 3,
	1 << 62, 1<<62 + 5, math.MaxInt - 1, math.MaxInt}

// noLinks are words that tell no object; cut off, or as signed numbers, some would.
var noLinks = []uint64{0, 33, 34, 64, 96, 1 << 8, 1<<8 + 1, 1 << 16, 1<<16 + 1, 1 << 31, 1 << 32, 1<<32 + 1,
	1<<62 - 1, 1 << 62, 1<<62 + 1, 1<<63 - 1, 1 << 63, 1<<63 + 1, math.MaxUint64 - 1, math.MaxUint64}

// noThreads are Kinds' words of what is no Thread; cut off, some would be.
var noThreads = []uint64{api.Null, api.Untyped, api.CNode, api.Endpoint, api.Ntfn, api.Frame, api.Space, api.Irq, 9, 16 + 5,
	256 + 5, 1<<16 + 5, 1<<32 + 5, 1<<62 + 5, 1<<63 + 5, 1 << 62, 1<<62 + 1, math.MaxUint64 - 4, math.MaxUint64}

// priorities are such, and noPriorities none; cut off, some would be.
var (
	priorities   = []int{0, 1, 2, 7, 127, 128, 254, 255}
	noPriorities = []int{-1, -2, -255, -256, -257, -65536, -1 << 32, -1 << 62, math.MinInt, math.MinInt + 1, 256, 257, 511,
		512, 65535, 65536, 1 << 31, 1 << 32, 1<<32 + 7, 1 << 62, 1<<62 + 9, math.MaxInt - 1, math.MaxInt}
)

// states are all states of threads, and others numbers that are none of them.
var (
	states = []int{endp.Stopped, endp.Ready, endp.Sending, endp.Receiving, endp.Replying, endp.Waiting, endp.Calling}
	others = []int{7, 8, 256, 257, 1 << 32, 1<<32 + 1, 1<<62 - 1, 1 << 62}
)

// end is an object that threads are blocked on: its kind, its F1, its queue.
type end struct {
	kind, f1 int
	queue    []int
}

// thread is what a thread has. Of on, owes (whom it owes a reply), and owed (who owes
// it one) -1 is none.
type thread struct {
	state, word, badge, prio int
	on, owes, owed           int
	root                     api.Cap
}

// world are ends and threads, by their numbers.
type world struct {
	ends    map[int]*end
	threads map[int]*thread
}

// Objects of a world as it begins: ends; CNodes, of radix 3, 5, 0, of the last slots
// that there are; such that aren't fine; objects of the other kinds.
const (
	memory    = 4
	anEp      = 5
	anNtfn    = 6
	otherEp   = 7
	node      = 11
	great     = 12
	small     = 13
	tooWide   = 14
	tooFar    = 15
	farOff    = 16
	noRadix   = 17
	anIrq     = 18
	aSpace    = 19
	aFrame    = 21
	nothing   = 22
	otherKind = 23
)

// someThreads are a world's.
var someThreads = []int{0, 1, 2, 3, 8, 9, 10, 20, 30, 31}

// kinds are those of a world's objects that are neither ends nor threads.
var kinds = [][4]int{{node, api.CNode, 8, 3}, {great, api.CNode, 64, 5}, {small, api.CNode, 95, 0},
	{tooWide, api.CNode, 0, 6}, {tooFar, api.CNode, 65, 5}, {farOff, api.CNode, 96, 0}, {noRadix, api.CNode, 0, 1 << 62},
	{anIrq, api.Irq, 0, 3}, {aSpace, api.Space, 0, 3}, {aFrame, api.Frame, 0, 3}, {nothing, api.Null, 0, 3},
	{otherKind, 1 << 40, 0, 3}}

// rootOf is a capability of a CNode, with a guard of some bits.
func rootOf(obj, rights, guard, bits int) api.Cap {
	return api.Cap{Kind: api.CNode, Rights: rights, Obj: obj, Guard: guard, Bits: bits}
}

// wordOfCap is a capability's word, as layer 2's chapter counts its bits.
func wordOfCap(c api.Cap) uint64 {
	n := c.Guard
	n = n*16 + c.Bits
	n = n*65536 + c.Badge
	n = n*32 + c.Obj
	n = n*8 + c.Rights
	return uint64(n*16 + c.Kind)
}

// begun is a world of two Endpoints, an Ntfn, memory, CNodes, and threads that are
// Ready, no two of which are alike.
func begun() world {
	w := world{map[int]*end{
		anEp: {kind: api.Endpoint}, otherEp: {kind: api.Endpoint},
		anNtfn: {kind: api.Ntfn}, memory: {kind: api.Untyped, f1: 40},
	}, map[int]*thread{}}
	for i, t := range someThreads {
		w.threads[t] = &thread{endp.Ready, 5000 + t, 6000 + t, 255 - 28*i, -1, -1, -1, rootOf(node, 7, i, 4)}
	}
	return w
}

// filled are words in which no object's F2 tells a thread, and none is a Thread,
// each of the others unlike all of them.
func filled() view.Plain {
	p := make(view.Plain, allWords)
	for i := range p {
		p[i] = uint64(1000 + i)
	}
	for obj := range allObjs {
		p[at(obj, f2)] = 0
	}
	return p
}

// words are such in which that world is.
func (w world) words() view.Plain {
	p := filled()
	for _, k := range kinds {
		p[at(k[0], kind)], p[at(k[0], f1)], p[at(k[0], f2)] = uint64(k[1]), uint64(k[2]), uint64(k[3])
	}
	for i, x := range w.threads {
		p[at(i, kind)], p[at(i, f1)] = api.Thread, uint64(x.state)
		if x.state == endp.Replying {
			p[at(i, f2)] = uint64(x.owed + 1)
		}
		p[at(i, f3)], p[at(i, f4)] = uint64(x.word), uint64(x.badge)
		p[at(i, f5)], p[at(i, f6)] = uint64(x.prio+256*(x.on+1)), uint64(x.owes+1)
		p[at(i, f7)] = wordOfCap(x.root)
	}
	for obj, e := range w.ends {
		p[at(obj, kind)], p[at(obj, f1)], p[at(obj, f3)] = uint64(e.kind), uint64(e.f1), 0
		ahead := obj
		for _, i := range e.queue {
			p[at(ahead, f2)], p[at(obj, f3)] = uint64(i+1), uint64(i+1)
			ahead = i
		}
	}
	return p
}

// blocks lets threads of a world wait on an object, in that state, behind those
// that are there.
func (w world) blocks(obj, state int, l ...int) {
	e := w.ends[obj]
	for _, i := range l {
		w.threads[i].state, w.threads[i].on = state, obj
		e.queue = append(slices.Clone(e.queue), i)
	}
	if len(l) > 0 && e.kind == api.Endpoint {
		e.f1 = map[int]int{endp.Sending: 1, endp.Calling: 1, endp.Receiving: 2}[state]
	}
}

// leaves lets a thread leave its object's queue; an Endpoint that has none then, has nobody.
func (w world) leaves(i int) {
	x := w.threads[i]
	e := w.ends[x.on]
	e.queue = slices.DeleteFunc(slices.Clone(e.queue), func(m int) bool { return m == i })
	if len(e.queue) == 0 && e.kind == api.Endpoint {
		e.f1 = 0
	}
	x.on = -1
}

// owe lets a thread owe a caller a reply.
func (w world) owe(i, caller int) {
	w.threads[i].owes = caller
	w.threads[caller].state, w.threads[caller].owed = endp.Replying, i
}

// suspend is what Suspend is to tell, and make of a world, of a thread of it.
func (w world) suspend(i int) error {
	x := w.threads[i]
	if x.state == endp.Stopped {
		return api.ErrState
	}
	if x.on >= 0 {
		w.leaves(i)
	}
	if x.state == endp.Replying {
		w.threads[x.owed].owes = -1
		x.owed = -1
	}
	x.state = endp.Stopped
	return nil
}

// resume is what Resume is to tell, and make of a world.
func (w world) resume(i int) error {
	x := w.threads[i]
	if x.state != endp.Stopped {
		return api.ErrState
	}
	x.state, x.word, x.badge = endp.Ready, 0, 0
	return nil
}

// highest is what Highest is to tell of a world: of one that is better than all
// of a lower number, and as good as all others.
func (w world) highest() (int, bool) {
	for i := range allObjs {
		x, best := w.threads[i], true
		if x == nil || x.state != endp.Ready {
			continue
		}
		for other, y := range w.threads {
			if y.state == endp.Ready && (y.prio > x.prio || y.prio == x.prio && other < i) {
				best = false
			}
		}
		if best {
			return i, true
		}
	}
	return 0, false
}

// stays holds that words are just those.
func stays(t *testing.T, what string, p, want view.Plain) {
	t.Helper()
	if !slices.Equal(p, want) {
		t.Errorf("%s: words unlike those that are to be: %v, of %v", what, view.Changed(want, p), view.Changed(p, want))
	}
}

// tells holds an error, itself, against what it is to be.
func tells(t *testing.T, what string, err, want error) {
	t.Helper()
	if !errors.Is(err, want) || want == nil && err != nil {
		t.Errorf("%s: %v, want %v", what, err, want)
	}
	if c, ok := err.(api.Code); err != nil && (!ok || c != want) {
		t.Errorf("%s: %v isn't the Code itself", what, err)
	}
}

// roots holds what Root tells against what it is to tell.
func roots(t *testing.T, what string, v view.View, i int, want api.Cap) {
	t.Helper()
	if c := Root(v, i); c != want {
		t.Errorf("%s: the root of %d is %v, want %v", what, i, c, want)
	}
}

// highest holds what Highest tells against what it is to tell.
func highest(t *testing.T, what string, v view.View, want int, one bool) {
	t.Helper()
	if i, is := Highest(v); i != want || is != one {
		t.Errorf("%s: the highest is %d, %v, want %d, %v", what, i, is, want, one)
	}
}

// like holds words against a world's, and what layers 14 and 15, and this one, tell of them.
func like(t *testing.T, what string, p view.Plain, w world) {
	t.Helper()
	for i, x := range w.threads {
		if s := endp.State(p, i); s != x.state {
			t.Errorf("%s: state of %d: %d, want %d", what, i, s, x.state)
		}
		if on, ok := endp.On(p, i); on != max(x.on, 0) || ok != (x.on >= 0) {
			t.Errorf("%s: %d is blocked on %d, %v, want %d", what, i, on, ok, x.on)
		}
		roots(t, what, p, i, x.root)
	}
	for obj, e := range w.ends {
		if l := queue.List(p, obj); !slices.Equal(l, e.queue) {
			t.Errorf("%s: queue of %d: %v, want %v", what, obj, l, e.queue)
		}
	}
	i, is := w.highest()
	highest(t, what, p, i, is)
	stays(t, what, p, w.words())
}

// inState is a world in which thread i has that state: it waits in the midst of
// others, or 31 owes it a reply.
func inState(i, state int) world {
	w := begun()
	switch state {
	case endp.Sending, endp.Calling:
		w.blocks(anEp, endp.Sending, 1)
		w.blocks(anEp, state, i)
		w.blocks(anEp, endp.Calling, 30)
	case endp.Receiving:
		w.blocks(otherEp, state, 1, i, 30)
	case endp.Waiting:
		w.blocks(anNtfn, state, 1, i, 30)
	case endp.Replying:
		w.owe(31, i)
	default:
		w.threads[i].state = state
	}
	return w
}

// The chapter's example.
func TestExample(t *testing.T) {
	highest(t, "no threads", make(view.Plain, allWords), 0, false)
	highest(t, "no threads", filled(), 0, false)
	w := begun()
	clear(w.threads)
	highest(t, "no threads, other objects", w.words(), 0, false)
}

// P17.1, P17.2: one call behind the other, each word by word, as numbers.
func TestWords(t *testing.T) {
	p, want := make(view.Plain, allWords), make(view.Plain, allWords)
	set := func(obj int, l ...int) {
		for i, n := range l {
			want[at(obj, i)] = uint64(n)
		}
	}
	set(2, 5)
	set(3, 5, 1, 0, 7, 8, 9)
	set(4, 2, 16, 4)
	set(6, 4)
	copy(p, want)

	highest(t, "one", p, 3, true)
	tells(t, "a priority", Prio(p, 2, 255), nil)
	set(2, 5, 0, 0, 0, 0, 255)
	stays(t, "a priority", p, want)
	highest(t, "one that is Ready", p, 3, true)
	tells(t, "Stopped", Resume(p, 2), nil)
	set(2, 5, 1, 0, 0, 0, 255)
	stays(t, "Stopped", p, want)
	highest(t, "both", p, 2, true)
	tells(t, "a root", SetRoot(p, 2, api.Cap{Kind: 2, Rights: 5, Obj: 4, Guard: 3, Bits: 8}), nil)
	set(2, 5, 1, 0, 0, 0, 255, 0, 2+5<<4+4<<7+8<<28+3<<32)
	stays(t, "a root", p, want)
	roots(t, "a root", p, 2, api.Cap{Kind: 2, Rights: 5, Obj: 4, Guard: 3, Bits: 8})
	roots(t, "none", p, 3, api.Cap{})
	endp.Block(p, 6, 2, endp.Waiting)
	set(2, 5, 5, 0, 0, 0, 7*256+255)
	set(6, 4, 0, 3, 3)
	stays(t, "it waits", p, want)
	highest(t, "one waits", p, 3, true)
	tells(t, "of one that waits", Prio(p, 2, 3), nil)
	set(2, 5, 5, 0, 0, 0, 7*256+3)
	stays(t, "of one that waits", p, want)
	tells(t, "it waits", Suspend(p, 2), nil)
	set(2, 5, 0, 0, 0, 0, 3)
	set(6, 4, 0, 0, 0)
	stays(t, "it is suspended", p, want)
	tells(t, "Ready", Suspend(p, 3), nil)
	set(3, 5, 0, 0, 7, 8, 9)
	stays(t, "both are suspended", p, want)
	highest(t, "none", p, 0, false)
	tells(t, "Stopped", Resume(p, 3), nil)
	set(3, 5, 1, 0, 0, 0, 9)
	stays(t, "it is resumed", p, want)
}

// none holds that of no thread each call tells so, whatever else is wrong, R1.
func none(t *testing.T, what string, p view.Plain, i int) {
	t.Helper()
	tells(t, what, Suspend(p, i), api.ErrNone)
	tells(t, what, Resume(p, i), api.ErrNone)
	for _, n := range []int{0, 255, -1, 256, math.MaxInt} {
		tells(t, what, Prio(p, i, n), api.ErrNone)
	}
	for _, c := range []api.Cap{{}, rootOf(node, 7, 0, 0), rootOf(tooWide, 7, 0, 0), {Kind: -1}, {Kind: api.Frame, Obj: aFrame}} {
		tells(t, what, SetRoot(p, i, c), api.ErrNone)
	}
	roots(t, what, p, i, api.Cap{})
}

// P17.1, R1, R3, P1 of the whole: of objects that there aren't nothing is done.
func TestNone(t *testing.T) {
	w := begun()
	w.blocks(anEp, endp.Sending, 0, 1)
	w.blocks(anNtfn, endp.Waiting, 31)
	w.owe(8, 9)
	before := append(w.words(), w.words()...)
	p := slices.Clone(before)
	for _, no := range noObjs {
		none(t, "none", p, no)
	}
	stays(t, "none", p, before)
}

// P17.1, P17.2, R1, R3: of objects of every other Kind, whose fields would do.
func TestNoThread(t *testing.T) {
	for _, k := range noThreads {
		for _, s := range append(states, others...) {
			for _, i := range []int{0, 1, 30, 31} {
				w := begun()
				w.threads[i].state, w.threads[i].prio = s, 255
				before := w.words()
				before[at(i, kind)] = k
				p := slices.Clone(before)
				none(t, "no Thread", p, i)
				stays(t, "no Thread", p, before)
				delete(w.threads, i)
				n, is := w.highest()
				highest(t, "no Thread", p, n, is)
			}
		}
	}
	p := begun().words()
	for i := range allObjs {
		if p[at(i, kind)] != api.Thread {
			none(t, "as it begins", p, i)
		}
	}
	stays(t, "as it begins", p, begun().words())
}

// P17.1, P17.2: the first object, the last one, and those beside them, as threads.
func TestEnds(t *testing.T) {
	for _, i := range []int{0, 1, 30, 31} {
		w := begun()
		for other, x := range w.threads {
			if other != i {
				x.state = endp.Sending
			}
		}
		p := w.words()
		for n := range 3 {
			like(t, "Ready", p, w)
			tells(t, "Ready", Resume(p, i), w.resume(i))
			tells(t, "Ready", Suspend(p, i), w.suspend(i))
			like(t, "Stopped", p, w)
			tells(t, "Stopped", Suspend(p, i), w.suspend(i))
			tells(t, "a priority", Prio(p, i, 77+n), nil)
			w.threads[i].prio = 77 + n
			like(t, "a priority", p, w)
			w.threads[i].root = rootOf(great, n, n, 8)
			tells(t, "a root", SetRoot(p, i, w.threads[i].root), nil)
			like(t, "a root", p, w)
			tells(t, "Stopped", Resume(p, i), w.resume(i))
		}
	}
}

// P17.1: a thread of each state; of one that is Stopped ErrState, and no word is
// changed; word, badge, priority, root stay.
func TestSuspend(t *testing.T) {
	for _, s := range append(states, others...) {
		for _, i := range []int{0, 2, 20} {
			w := inState(i, s)
			p := w.words()
			like(t, "ahead", p, w)
			want := w.suspend(i)
			if (want != nil) != (s == 0) {
				t.Fatal("a state that is Stopped:", s)
			}
			tells(t, "of each state", Suspend(p, i), want)
			like(t, "of each state", p, w)
			tells(t, "again", Suspend(p, i), api.ErrState)
			like(t, "again", p, w)
		}
	}
}

// P17.1: the first one of a queue, one in the midst, the last one, the only one; each
// behind the other.
func TestSuspendQueues(t *testing.T) {
	for _, x := range [][2]int{{anEp, endp.Sending}, {anEp, endp.Calling}, {otherEp, endp.Receiving}, {anNtfn, endp.Waiting}} {
		for _, l := range [][]int{{0}, {31}, {3, 1}, {1, 3}, {20, 0, 31}, {8, 2, 1, 0, 31, 30}, someThreads} {
			for first := range l {
				w := begun()
				w.blocks(x[0], x[1], l...)
				p := w.words()
				for k := range l {
					i := l[(first+k)%len(l)]
					tells(t, "in a queue", Suspend(p, i), nil)
					if err := w.suspend(i); err != nil {
						t.Fatal(err)
					}
					like(t, "in a queue", p, w)
				}
			}
		}
	}
}

// P17.1: one that is owed a reply isn't any more; one that owes one still does, and
// is woken by nothing but Resume.
func TestSuspendReplies(t *testing.T) {
	for _, i := range []int{0, 3, 31} {
		w := begun()
		w.owe(8, i)
		w.owe(9, 20)
		p := w.words()
		tells(t, "is owed one", Suspend(p, i), nil)
		w.suspend(i)
		like(t, "is owed one", p, w)
		tells(t, "owes none", endp.Answer(p, 8, 5), api.ErrState)
		like(t, "owes none", p, w)

		w = begun()
		w.owe(i, 8)
		p = w.words()
		tells(t, "owes one", Suspend(p, i), nil)
		w.threads[i].state = endp.Stopped
		like(t, "owes one", p, w)
		tells(t, "owes one", Resume(p, i), nil)
		w.resume(i)
		like(t, "still owes one", p, w)
		tells(t, "owes one", endp.Answer(p, i, 7), nil)
		w.threads[i].owes = -1
		x := w.threads[8]
		x.state, x.word, x.badge, x.owed = endp.Ready, 7, 0, -1
		like(t, "answered", p, w)
	}
	// One of a chain: it owes one, and is owed one.
	w := begun()
	w.owe(1, 2)
	w.owe(3, 1)
	p := w.words()
	tells(t, "in a chain", Suspend(p, 1), nil)
	w.suspend(1)
	like(t, "in a chain", p, w)
}

// P17.1: of one that is Stopped: Ready, word and badge 0, and no other word; of each
// other state ErrState, and no word is changed.
func TestResume(t *testing.T) {
	for _, s := range append(states, others...) {
		for _, i := range []int{0, 2, 20} {
			w := inState(i, s)
			p := w.words()
			want := w.resume(i)
			if (want == nil) != (s == 0) {
				t.Fatal("a state that isn't Stopped:", s)
			}
			tells(t, "of each state", Resume(p, i), want)
			like(t, "of each state", p, w)
			if s != 0 {
				continue
			}
			if p[at(i, f1)] != endp.Ready || p[at(i, f3)] != 0 || p[at(i, f4)] != 0 {
				t.Errorf("%d is %d, word %d, badge %d", i, p[at(i, f1)], p[at(i, f3)], p[at(i, f4)])
			}
			tells(t, "again", Resume(p, i), api.ErrState)
			like(t, "again", p, w)
		}
	}
}

// P17.1: of a word and a badge, great ones too, that it had as it was Stopped.
func TestResumeWords(t *testing.T) {
	for _, n := range append([]uint64{1, api.MaxBadge, api.MaxWord}, noLinks...) {
		w := begun()
		w.threads[3].state = endp.Stopped
		w.owe(3, 9)
		w.threads[3].owes = 9
		p := w.words()
		p[at(3, f3)], p[at(3, f4)] = n, n
		tells(t, "any word", Resume(p, 3), nil)
		w.resume(3)
		like(t, "any word", p, w)
	}
}

// P17.3: suspended, and resumed, a thread of any state is Ready, in no queue.
func TestSuspendedResumed(t *testing.T) {
	for _, s := range append(states[1:], others...) {
		for _, i := range []int{0, 2, 20} {
			w := inState(i, s)
			p := w.words()
			tells(t, "suspended", Suspend(p, i), nil)
			tells(t, "resumed", Resume(p, i), nil)
			w.suspend(i)
			w.resume(i)
			like(t, "suspended, and resumed", p, w)
			if endp.State(p, i) != endp.Ready {
				t.Error("it isn't Ready:", endp.State(p, i))
			}
			for obj := range w.ends {
				if l := queue.List(p, obj); slices.Contains(l, i) {
					t.Errorf("%d, that was of state %d, is in the queue %v of %d", i, s, l, obj)
				}
			}
		}
	}
}

// P17.1: each priority, of a thread of each state: what it is blocked on, and each
// other word, stays.
func TestPrio(t *testing.T) {
	for _, s := range append(states, others...) {
		for _, from := range priorities {
			for _, to := range priorities {
				w := inState(2, s)
				w.threads[2].prio = from
				p := w.words()
				tells(t, "a priority", Prio(p, 2, to), nil)
				w.threads[2].prio = to
				like(t, "a priority", p, w)
				if n := p[at(2, f5)] % 256; n != uint64(to) {
					t.Errorf("priority %d, want %d", n, to)
				}
			}
		}
	}
}

// P17.1: all priorities there are, behind each other, of one that waits at the first
// object, and at the last one.
func TestPrioAll(t *testing.T) {
	for _, obj := range []int{0, 31} {
		p := begun().words()
		p[at(2, f1)], p[at(2, f5)] = endp.Waiting, uint64(256*(obj+1))
		want := slices.Clone(p)
		for n := range 256 {
			tells(t, "each priority", Prio(p, 2, n), nil)
			want[at(2, f5)] = uint64(256*(obj+1) + n)
			stays(t, "each priority", p, want)
			if on, ok := endp.On(p, 2); on != obj || !ok {
				t.Fatal("it is blocked on", on, ok)
			}
		}
	}
}

// P17.1, R3: what is no priority, of a thread of each state: no word is changed.
func TestNoPrio(t *testing.T) {
	for _, s := range append(states, others...) {
		w := inState(2, s)
		p := w.words()
		for _, n := range noPriorities {
			tells(t, "no priority", Prio(p, 2, n), api.ErrArg)
		}
		like(t, "no priority", p, w)
	}
}

// P17.1: what F5 tells that is no object stays, too, as far as a field tells it.
func TestPrioNoObject(t *testing.T) {
	for _, on := range []uint64{33, 34, 255, 256, 1 << 24, 1<<54 - 1} {
		p := begun().words()
		p[at(2, f5)] = 256*on + 9
		want := slices.Clone(p)
		for _, n := range priorities {
			tells(t, "blocked on none", Prio(p, 2, n), nil)
			want[at(2, f5)] = 256*on + uint64(n)
			stays(t, "blocked on none", p, want)
		}
	}
	for _, w := range []uint64{1<<62 + 1, 1<<62 + 255, 1 << 63, 1<<63 + 256*6 + 9, math.MaxUint64} {
		p := begun().words()
		p[at(2, f5)] = w
		want := slices.Clone(p)
		tells(t, "above a field", Prio(p, 2, 7), nil)
		want[at(2, f5)] = 7
		stays(t, "above a field", p, want)
	}
}

// P17.1: each CNode that is fine, with any rights, and any guard; a thread of each
// state; its root's word, and no other one.
func TestSetRoot(t *testing.T) {
	for _, s := range append(states, others...) {
		w := inState(2, s)
		p := w.words()
		for _, obj := range []int{node, great, small} {
			for _, g := range [][2]int{{0, 0}, {0, 1}, {1, 1}, {3, 2}, {5, 8}, {255, 8}, {127, 7}} {
				c := rootOf(obj, (obj+g[0])%8, g[0], g[1])
				tells(t, "a root", SetRoot(p, 2, c), nil)
				w.threads[2].root = c
				like(t, "a root", p, w)
			}
		}
	}
}

// P17.1: of each radix, of the first slots and of the last ones; of the first object
// and of the last one.
func TestSetRootRadix(t *testing.T) {
	for radix := range 6 {
		for _, first := range []int{0, 1, 96 - 1<<radix} {
			for _, obj := range []int{0, 5, 31} {
				p := begun().words()
				p[at(obj, kind)], p[at(obj, f1)], p[at(obj, f2)] = api.CNode, uint64(first), uint64(radix)
				want := slices.Clone(p)
				c := rootOf(obj, 1, 2, 3)
				tells(t, "of any radix", SetRoot(p, 2, c), nil)
				want[at(2, f7)] = wordOfCap(c)
				stays(t, "of any radix", p, want)
				roots(t, "of any radix", p, 2, c)
				p[at(obj, f1)] = uint64(96 - 1<<radix + 1)
				tells(t, "slots that there aren't", SetRoot(p, 2, rootOf(obj, 0, 0, 0)), api.ErrType)
				p[at(obj, f1)] = uint64(first)
				stays(t, "slots that there aren't", p, want)
			}
		}
	}
}

// notFine are capabilities that may be, of which none is a CNode that is fine.
func notFine() []api.Cap {
	l := []api.Cap{{}, {Kind: api.Untyped, Obj: memory}, {Kind: api.Endpoint, Obj: anEp}, {Kind: api.Ntfn, Obj: anNtfn},
		{Kind: api.Endpoint, Obj: anEp, Badge: 9}, {Kind: api.Thread, Obj: 1}, {Kind: api.Frame, Obj: aFrame},
		{Kind: api.Space, Obj: aSpace}, {Kind: api.Irq, Obj: anIrq}}
	for k := api.Untyped; k <= api.Irq; k++ {
		if k != api.CNode {
			l = append(l, api.Cap{Kind: k, Obj: node, Rights: api.CanAll})
		}
	}
	for _, obj := range []int{tooWide, tooFar, farOff, noRadix, memory, anEp, anNtfn, 0, 1, 31, anIrq, aSpace, aFrame,
		nothing, otherKind, 24, 29} {
		l = append(l, rootOf(obj, 7, 0, 0), rootOf(obj, 0, 3, 8))
	}
	return l
}

// mayNotBe are capabilities that may not be, each of one fault, but for the last ones.
func mayNotBe() []api.Cap {
	var l []api.Cap
	fine := rootOf(node, 7, 3, 8)
	for _, n := range []int{-1, 1, 2, 65535, 65536, math.MinInt, math.MaxInt, 1 << 32} {
		c := fine
		c.Badge = n
		l = append(l, c)
	}
	for _, n := range []int{-1, 8, 9, 15, 16, math.MinInt, math.MaxInt, 1 << 32} {
		c := fine
		c.Rights = n
		l = append(l, c)
	}
	for _, n := range []int{-1, 9, 10, 16, 24, math.MinInt, math.MaxInt, 1 << 32} {
		c := fine
		c.Bits = n
		l = append(l, c)
	}
	for _, n := range []int{-1, 256, 257, 65536, math.MinInt, math.MaxInt, 1 << 32} {
		c := fine
		c.Guard = n
		l = append(l, c)
	}
	for _, n := range append([]int{-1 << 5, node - 32, node + 32, node + 64}, noObjs...) {
		c := fine
		c.Obj = n
		l = append(l, c)
	}
	for _, n := range []int{-1, 9, 10, 16, 18, 2 - 16, 1<<32 + 2, math.MinInt, math.MinInt + 2, math.MaxInt} {
		c := fine
		c.Kind = n
		l = append(l, c)
	}
	return append(l, rootOf(node, 7, 1, 0), rootOf(node, 7, 2, 1), rootOf(node, 7, 4, 2), rootOf(node, 7, 128, 7),
		api.Cap{Obj: node}, api.Cap{Rights: 7}, api.Cap{Guard: 1, Bits: 1}, api.Cap{Kind: api.Frame, Obj: aFrame, Bits: 1},
		api.Cap{Kind: -1, Rights: -1, Obj: -1, Badge: -1, Guard: -1, Bits: -1}, rootOf(tooWide, 8, 0, 0))
}

// P17.1, R3: what is no CNode that is fine, or may not be: ErrType, and no word is changed.
func TestNoRoot(t *testing.T) {
	for _, s := range append(states, others...) {
		w := inState(2, s)
		p := w.words()
		for _, c := range append(notFine(), mayNotBe()...) {
			tells(t, "no root", SetRoot(p, 2, c), api.ErrType)
			if t.Failed() {
				t.Fatal(c)
			}
		}
		like(t, "no root", p, w)
	}
}

// P17.1: a CNode's fields as layer 9 tells them: what is above 2^62 is 0; the Kind's
// word is asked itself.
func TestRootFields(t *testing.T) {
	for _, x := range []struct {
		field int
		w     uint64
		fine  bool
	}{{f1, 0, true}, {f1, 88, true}, {f1, 89, false}, {f1, 1 << 62, false}, {f1, 1<<62 + 1, true}, {f1, math.MaxUint64, true},
		{f2, 0, true}, {f2, 5, true}, {f2, 6, false}, {f2, 62, false}, {f2, 63, false}, {f2, 64, false}, {f2, 256, false},
		{f2, 1 << 62, false}, {f2, 1<<62 + 1, true}, {f2, math.MaxUint64, true},
		{kind, 2, true}, {kind, 5, false}, {kind, 18, false}, {kind, 1<<62 + 2, false}, {kind, 1<<63 + 2, false}} {
		w := begun()
		p := w.words()
		p[at(node, x.field)] = x.w
		want := slices.Clone(p)
		c := rootOf(node, 3, 1, 2)
		if x.fine {
			tells(t, "fine", SetRoot(p, 2, c), nil)
			want[at(2, f7)] = wordOfCap(c)
		} else {
			tells(t, "not fine", SetRoot(p, 2, c), api.ErrType)
		}
		stays(t, "a CNode's fields", p, want)
		if t.Failed() {
			t.Fatal(x)
		}
	}
}

// P17.1: a thread's root, whatever its state, whatever capability the word is of; a
// Null one of 0, and of a word that is none.
func TestRoot(t *testing.T) {
	for _, s := range append(states, others...) {
		w := inState(2, s)
		p := w.words()
		before := slices.Clone(p)
		roots(t, "as it begins", p, 2, rootOf(node, 7, 2, 4))
		for _, c := range append(notFine(), rootOf(node, 0, 0, 0), rootOf(great, 7, 255, 8), rootOf(31, 1, 0, 8),
			api.Cap{Kind: api.Ntfn, Rights: 7, Obj: 31, Badge: 65535}) {
			p[at(2, f7)] = wordOfCap(c)
			roots(t, "of any capability", p, 2, c)
		}
		for _, no := range []uint64{0, 16, 128, 9, 10, 15, 1 << 12, 1 << 28, 1 << 32, 1<<28 + 5, 2 + 9<<28, 2 + 1<<32, 2 + 2<<32 + 1<<28,
			2 + 7<<4 + node<<7 + 1<<12, 2 + 1<<40, 2 + 1<<62, 2 + 1<<63, 1 << 62, 1<<62 + 1, 1 << 63, math.MaxUint64} {
			p[at(2, f7)] = no
			roots(t, "of no capability", p, 2, api.Cap{})
		}
		p[at(2, f7)] = before[at(2, f7)]
		stays(t, "Root", p, before)
	}
}

// P17.1: another thread's root is another one; a slot's capability is none of a thread's.
func TestRootOthers(t *testing.T) {
	w := begun()
	p := w.words()
	for i := range 96 {
		p[5*i] = wordOfCap(rootOf(great, 1, 0, 0))
	}
	before := slices.Clone(p)
	for k, i := range someThreads {
		roots(t, "of each", p, i, rootOf(node, 7, k, 4))
		c := rootOf(small, 1, k, 5)
		tells(t, "of each", SetRoot(p, i, c), nil)
		before[at(i, f7)] = wordOfCap(c)
		stays(t, "of each", p, before)
	}
	for k, i := range someThreads {
		roots(t, "of each", p, i, rootOf(small, 1, k, 5))
	}
}

// ready are words of threads, each of a number, a priority, a state.
func ready(l ...[3]int) view.Plain {
	p := filled()
	for _, x := range l {
		p[at(x[0], kind)], p[at(x[0], f5)], p[at(x[0], f1)] = api.Thread, uint64(x[1]), uint64(x[2])
	}
	return p
}

// P17.2: with none, with one, with several; of alike ones the lowest number.
func TestHighest(t *testing.T) {
	for _, x := range []struct {
		l    [][3]int
		want int
		is   bool
	}{
		{nil, 0, false},
		{[][3]int{{0, 0, 1}}, 0, true},
		{[][3]int{{31, 0, 1}}, 31, true},
		{[][3]int{{7, 255, 1}}, 7, true},
		{[][3]int{{7, 255, 0}}, 0, false},
		{[][3]int{{0, 5, 0}, {7, 255, 5}, {31, 9, 2}}, 0, false},
		{[][3]int{{3, 0, 1}, {4, 0, 1}, {5, 0, 1}}, 3, true},
		{[][3]int{{3, 255, 1}, {4, 255, 1}, {31, 255, 1}}, 3, true},
		{[][3]int{{0, 255, 1}, {4, 254, 1}, {31, 254, 1}}, 0, true},
		{[][3]int{{0, 254, 1}, {4, 254, 1}, {31, 255, 1}}, 31, true},
		{[][3]int{{0, 1, 1}, {4, 200, 1}, {9, 200, 1}, {31, 199, 1}}, 4, true},
		{[][3]int{{0, 1, 1}, {4, 200, 5}, {9, 200, 0}, {31, 199, 1}}, 31, true},
		{[][3]int{{0, 1, 1}, {4, 200, 2}, {9, 200, 3}, {31, 199, 4}}, 0, true},
		{[][3]int{{2, 127, 1}, {3, 128, 1}, {4, 126, 1}}, 3, true},
		{[][3]int{{2, 0, 1}, {3, 1, 1}}, 3, true},
		{[][3]int{{2, 1, 1}, {3, 0, 1}}, 2, true},
	} {
		p := ready(x.l...)
		before := slices.Clone(p)
		highest(t, "of some", p, x.want, x.is)
		stays(t, "Highest", p, before)
	}
}

// P17.2: of all 32 objects as threads, each one the highest; all alike; all falling
// and rising.
func TestHighestAll(t *testing.T) {
	var alike, falls, rises [][3]int
	for i := range allObjs {
		alike = append(alike, [3]int{i, 9, 1})
		falls = append(falls, [3]int{i, 255 - i, 1})
		rises = append(rises, [3]int{i, i, 1})
	}
	highest(t, "alike", ready(alike...), 0, true)
	for i := range allObjs {
		highest(t, "falling", ready(falls[i:]...), i, true)
		highest(t, "rising", ready(rises[:i+1]...), i, true)
		l := slices.Clone(alike)
		l[i][1] = 10
		highest(t, "one is higher", ready(l...), i, true)
		l[i][2] = 7
		highest(t, "it isn't Ready", ready(l...), map[bool]int{true: 1, false: 0}[i == 0], true)
	}
}

// P17.2: one that isn't Ready, of each state, by a greater priority; what one is
// blocked on is no priority.
func TestHighestStates(t *testing.T) {
	for _, s := range append(states, others...) {
		for _, i := range []int{0, 31} {
			p := ready([3]int{5, 8, 1}, [3]int{i, 200, s})
			highest(t, "one of another state", p, map[bool]int{true: i, false: 5}[s == endp.Ready], true)
		}
	}
	for _, on := range []int{1, 2, 32, 33, 1 << 40} {
		highest(t, "blocked on something", ready([3]int{5, 8, 1}, [3]int{3, 256*on + 7, 1}), 5, true)
		highest(t, "blocked on something", ready([3]int{5, 8, 1}, [3]int{6, 256*on + 9, 1}), 6, true)
	}
	// What is above a field's greatest number is 0: no priority, and no state.
	p := ready([3]int{5, 8, 1}, [3]int{3, 0, 1})
	p[at(3, f5)] = 1<<63 + 200
	highest(t, "above a field", p, 5, true)
	p[at(3, f5)], p[at(3, f1)] = 200, 1<<63+1
	highest(t, "above a field", p, 5, true)
	p[at(5, f1)] = 1<<62 + 1
	highest(t, "above a field", p, 0, false)
}

// P17.2: objects of other Kinds, whose fields would do.
func TestHighestKinds(t *testing.T) {
	for _, k := range noThreads {
		p := ready([3]int{5, 8, 1}, [3]int{0, 200, 1}, [3]int{31, 200, 1})
		p[at(0, kind)], p[at(31, kind)] = k, k
		highest(t, "of other Kinds", p, 5, true)
		p[at(5, kind)] = k
		highest(t, "of other Kinds", p, 0, false)
	}
}

// P17.2: how many objects are used is not asked: a Thread object is one by its Kind.
func TestHighestUsed(t *testing.T) {
	for _, n := range []uint64{0, 3, 32, math.MaxUint64} {
		p := ready([3]int{5, 8, 1}, [3]int{3, 7, 1})
		p[lay.Size()-1] = n
		highest(t, "of any number that is used", p, 5, true)
	}
}
