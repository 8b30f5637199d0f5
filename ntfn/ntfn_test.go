package ntfn

import (
	"errors"
	"math"
	"slices"
	"testing"

	"padstone/api"
	"padstone/endp"
	"padstone/queue"
	"padstone/view"
)

// Words of objects, as layer 9's chapter counts them: eight an object, behind all slots.
const (
	objsAt   = 480
	objWords = 8
	kind     = 0
	f1       = 1
	f2       = 2
	f3       = 3
	f4       = 4
	f5       = 5
	f6       = 6
	f7       = 7
	allObjs  = 32
	allWords = 738
)

// at is the number of an object's word.
func at(obj, field int) int { return objsAt + objWords*obj + field }

// noObjs are numbers that no object has. Eight times some of them wraps round, to
// a word that is there.
var noObjs = []int{-1, -2, -8, -32, -33, -60, -61, -1 << 32, -1 << 60, -1<<61 + 3, -1 << 61, -1 << 62, -1<<62 + 5,
	math.MinInt + 1, math.MinInt, 32, 33, 34, 64, 96, 480, 737, 1 << 32, 1<<32 + 1, 1<<60 + 1, 1 << 61, 1<<61 + 3,
	1 << 62, 1<<62 + 5, math.MaxInt - 1, math.MaxInt}

// noLinks are words that tell no object; cut off, or as signed numbers, some would.
var noLinks = []uint64{0, 33, 34, 64, 96, 1 << 8, 1<<8 + 1, 1 << 16, 1<<16 + 1, 1 << 31, 1 << 32, 1<<32 + 1,
	1<<62 - 1, 1 << 62, 1<<62 + 1, 1<<63 - 1, 1 << 63, 1<<63 + 1, math.MaxUint64 - 1, math.MaxUint64}

// badges are such, and numbers that are none, each with its lowest 16 bits.
var badges = [][2]int{{0, 0}, {1, 1}, {2, 2}, {21, 21}, {255, 255}, {256, 256}, {1 << 15, 1 << 15}, {65534, 65534},
	{api.MaxBadge, 65535}, {65536, 0}, {65537, 1}, {1<<16 + 21, 21}, {1 << 17, 0}, {1<<17 - 1, 65535}, {1<<17 + 3, 3},
	{3 << 16, 0}, {1 << 31, 0}, {1<<31 - 1, 65535}, {1 << 32, 0}, {1<<32 + 5, 5}, {1 << 62, 0}, {1<<62 + 6, 6},
	{math.MaxInt, 65535}, {math.MaxInt - 1, 65534}, {-1, 65535}, {-2, 65534}, {-65535, 1}, {-65536, 0}, {-65537, 65535},
	{-1 << 17, 0}, {-1 << 62, 0}, {-1<<62 + 7, 7}, {math.MinInt, 0}, {math.MinInt + 1, 1}}

// states are all states of threads.
var states = []int{endp.Stopped, endp.Ready, endp.Sending, endp.Receiving, endp.Replying, endp.Waiting, endp.Calling}

// end is an object that threads wait at: its kind, its F1, its queue.
type end struct {
	kind, f1 int
	queue    []int
}

// thread is what a thread has that calls change. Of on -1 is none.
type thread struct{ state, word, badge, prio, on int }

// world are ends and threads, by their numbers.
type world struct {
	ends    map[int]*end
	threads map[int]*thread
}

// Ends of a world as it begins, and threads of it.
const (
	anNtfn    = 6
	otherNtfn = 7
	anEp      = 5
	memory    = 4
)

var someThreads = []int{0, 1, 2, 3, 8, 9, 10, 20, 30, 31}

// begun is a world of two Ntfns without bits, an Endpoint, memory, and threads that
// are Ready, no two of which are alike.
func begun() world {
	w := world{map[int]*end{
		anNtfn: {kind: api.Ntfn}, otherNtfn: {kind: api.Ntfn},
		anEp: {kind: api.Endpoint}, memory: {kind: api.Untyped, f1: 40},
	}, map[int]*thread{}}
	for i, t := range someThreads {
		w.threads[t] = &thread{endp.Ready, 5000 + t, 6000 + t, 255 - 28*i, -1}
	}
	return w
}

// filled are words in which no object's F2 tells a thread, each of the others
// unlike all of them.
func filled() view.Plain {
	p := make(view.Plain, allWords)
	for i := range p {
		p[i] = uint64(1000 + i)
	}
	for obj := range allObjs {
		p[at(obj, f2)] = 0
	}
	return p
}

// words are such in which that world is.
func (w world) words() view.Plain {
	p := filled()
	for i, x := range w.threads {
		p[at(i, f1)], p[at(i, f3)], p[at(i, f4)] = uint64(x.state), uint64(x.word), uint64(x.badge)
		p[at(i, f5)] = uint64(x.prio + 256*(x.on+1))
	}
	for obj, e := range w.ends {
		p[at(obj, kind)], p[at(obj, f1)], p[at(obj, f3)] = uint64(e.kind), uint64(e.f1), 0
		ahead := obj
		for _, i := range e.queue {
			p[at(ahead, f2)], p[at(obj, f3)] = uint64(i+1), uint64(i+1)
			ahead = i
		}
	}
	return p
}

// blocks lets threads of a world wait at an object, behind those that are there.
func (w world) blocks(obj int, l ...int) {
	e := w.ends[obj]
	for _, i := range l {
		w.threads[i].state, w.threads[i].on = endp.Waiting, obj
		e.queue = append(slices.Clone(e.queue), i)
	}
}

// wakes lets the first one of those that wait at an object be Ready, with a word.
func (w world) wakes(obj, word int) {
	e := w.ends[obj]
	x := w.threads[e.queue[0]]
	x.state, x.word, x.badge, x.on = endp.Ready, word, 0, -1
	e.queue = slices.Clone(e.queue[1:])
}

// stays holds that words are just those.
func stays(t *testing.T, what string, p, want view.Plain) {
	t.Helper()
	if !slices.Equal(p, want) {
		t.Errorf("%s: words unlike those that are to be: %v, of %v", what, view.Changed(want, p), view.Changed(p, want))
	}
}

// tells holds an error, itself, against what it is to be.
func tells(t *testing.T, what string, err, want error) {
	t.Helper()
	if !errors.Is(err, want) || want == nil && err != nil {
		t.Errorf("%s: %v, want %v", what, err, want)
	}
	if c, ok := err.(api.Code); err != nil && (!ok || c != want) {
		t.Errorf("%s: %v isn't the Code itself", what, err)
	}
}

// signals holds what Signal tells against what it is to tell.
func signals(t *testing.T, what string, v view.View, obj, badge int, want error) {
	t.Helper()
	tells(t, what, Signal(v, obj, badge), want)
}

// waits holds what Wait tells against what it is to tell: a word, and whether there
// was one.
func waits(t *testing.T, what string, v view.View, obj, i, word int, one bool, want error) {
	t.Helper()
	r, is, err := Wait(v, obj, i)
	tells(t, what, err, want)
	if is != one || r != (api.Reply{Word: word}) {
		t.Errorf("%s: %d waits at %d: %v, %v, want word %d, %v", what, i, obj, r, is, word, one)
	}
}

// polls holds what Poll tells against what it is to tell: a word.
func polls(t *testing.T, what string, v view.View, obj, word int, want error) {
	t.Helper()
	r, err := Poll(v, obj)
	tells(t, what, err, want)
	if r != (api.Reply{Word: word}) {
		t.Errorf("%s: of %d: %v, want word %d", what, obj, r, word)
	}
}

// like holds words against a world's, and what layers 14 and 15 tell of them.
func like(t *testing.T, what string, p view.Plain, w world) {
	t.Helper()
	for i, x := range w.threads {
		if s := endp.State(p, i); s != x.state {
			t.Errorf("%s: state of %d: %d, want %d", what, i, s, x.state)
		}
		if on, ok := endp.On(p, i); on != max(x.on, 0) || ok != (x.on >= 0) {
			t.Errorf("%s: %d is blocked on %d, %v, want %d", what, i, on, ok, x.on)
		}
	}
	for obj, e := range w.ends {
		if l := queue.List(p, obj); !slices.Equal(l, e.queue) {
			t.Errorf("%s: queue of %d: %v, want %v", what, obj, l, e.queue)
		}
	}
	stays(t, what, p, w.words())
}

// The chapter's example.
func TestExample(t *testing.T) {
	p := make(view.Plain, allWords)
	signals(t, "the first", p, 6, 1, nil)
	signals(t, "the second", p, 6, 4, nil)
	waits(t, "behind them", p, 6, 0, 5, true, nil)
}

// P16.1: one call behind the other, each word by word, as numbers.
func TestWords(t *testing.T) {
	p, want := make(view.Plain, allWords), make(view.Plain, allWords)
	set := func(obj int, l ...int) {
		for i, n := range l {
			want[at(obj, 1+i)] = uint64(n)
		}
	}
	p[at(6, kind)], want[at(6, kind)] = api.Ntfn, api.Ntfn
	p[at(1, f5)], p[at(2, f5)] = 255, 9
	set(1, 0, 0, 0, 0, 255)
	set(2, 0, 0, 0, 0, 9)

	signals(t, "the first", p, 6, 5, nil)
	set(6, 5, 0, 0)
	stays(t, "the first", p, want)
	signals(t, "the second", p, 6, 12, nil)
	set(6, 13, 0, 0)
	stays(t, "the second", p, want)
	waits(t, "a word", p, 6, 0, 13, true, nil)
	set(6, 0, 0, 0)
	stays(t, "a word", p, want)
	waits(t, "none", p, 6, 0, 0, false, nil)
	set(0, 5, 0, 0, 0, 7*256)
	set(6, 0, 1, 1)
	stays(t, "the first waits", p, want)
	waits(t, "none", p, 6, 1, 0, false, nil)
	set(0, 5, 2, 0, 0, 7*256)
	set(1, 5, 0, 0, 0, 7*256+255)
	set(6, 0, 1, 2)
	stays(t, "the second waits", p, want)
	polls(t, "none", p, 6, 0, nil)
	stays(t, "polled", p, want)
	signals(t, "the first one is woken", p, 6, 3, nil)
	set(0, 1, 0, 3, 0, 0)
	set(6, 0, 2, 2)
	stays(t, "the first one is woken", p, want)
	signals(t, "the second one is woken", p, 6, 4, nil)
	set(1, 1, 0, 4, 0, 255)
	set(6, 0, 0, 0)
	stays(t, "the second one is woken", p, want)
	signals(t, "none waits", p, 6, 8, nil)
	set(6, 8, 0, 0)
	stays(t, "none waits", p, want)
	polls(t, "a word", p, 6, 8, nil)
	set(6, 0, 0, 0)
	stays(t, "polled", p, want)
}

// P16.1, R1, R3, P1 of the whole: of objects that there aren't, as the Ntfn and as
// the thread, whatever waits there.
func TestNone(t *testing.T) {
	w := begun()
	w.blocks(anNtfn, 0, 1)
	w.blocks(anEp, 31)
	w.ends[otherNtfn].f1 = 21
	before := append(w.words(), filled()...)
	p := slices.Clone(before)
	for _, no := range noObjs {
		for i := range allObjs {
			waits(t, "no Ntfn", p, no, i, 0, false, api.ErrNone)
			waits(t, "no thread", p, i, no, 0, false, api.ErrNone)
		}
		for _, other := range noObjs {
			waits(t, "neither", p, no, other, 0, false, api.ErrNone)
		}
		for _, b := range badges {
			signals(t, "no Ntfn", p, no, b[0], api.ErrNone)
		}
		polls(t, "no Ntfn", p, no, 0, api.ErrNone)
	}
	stays(t, "none", p, before)
}

// P16.1: the first object and the last one, as Ntfn and as thread, of any kind.
func TestEnds(t *testing.T) {
	for _, x := range [][3]int{{0, 31, 1}, {31, 0, 30}, {30, 31, 0}, {1, 0, 31}} {
		obj, a, b := x[0], x[1], x[2]
		for _, k := range []int{api.Ntfn, 0, api.Endpoint, api.Thread, 1 << 40} {
			w := begun()
			delete(w.threads, obj)
			w.ends[obj] = &end{kind: k}
			p := w.words()
			signals(t, "the ends", p, obj, 20, nil)
			w.ends[obj].f1 = 20
			like(t, "the ends have a word", p, w)
			waits(t, "the ends", p, obj, a, 20, true, nil)
			w.ends[obj].f1 = 0
			like(t, "the ends are told", p, w)
			waits(t, "the ends", p, obj, a, 0, false, nil)
			waits(t, "the ends", p, obj, b, 0, false, nil)
			w.blocks(obj, a, b)
			like(t, "the ends wait", p, w)
			signals(t, "the ends", p, obj, 3, nil)
			w.wakes(obj, 3)
			like(t, "one is woken", p, w)
			signals(t, "the ends", p, obj, 4, nil)
			w.wakes(obj, 4)
			like(t, "both are", p, w)
			signals(t, "the ends", p, obj, 5, nil)
			polls(t, "the ends", p, obj, 5, nil)
			polls(t, "the ends", p, obj, 0, nil)
			like(t, "the ends are polled", p, w)
		}
	}
}

// P16.1: a badge's bits, or its lowest ones, with none that waits, of a word without
// bits, and of one that has some.
func TestBadges(t *testing.T) {
	for _, b := range badges {
		for _, word := range []int{0, 1, 5, 1 << 15, api.MaxBadge} {
			w := begun()
			w.ends[anNtfn].f1 = word
			w.blocks(otherNtfn, 8, 9)
			p := w.words()
			signals(t, "any badge", p, anNtfn, b[0], nil)
			w.ends[anNtfn].f1 = word | b[1]
			like(t, "any badge", p, w)
			signals(t, "any badge, again", p, anNtfn, b[0], nil)
			like(t, "any badge, again", p, w)
			polls(t, "any badge", p, anNtfn, word|b[1], nil)
			w.ends[anNtfn].f1 = 0
			like(t, "any badge, polled", p, w)
		}
	}
}

// P16.1: the same, with some that wait: the first one has them, and the word doesn't.
func TestBadgesWoken(t *testing.T) {
	for _, b := range badges {
		for _, l := range [][]int{{3}, {31, 0}, {20, 0, 31, 1}} {
			w := begun()
			w.blocks(anNtfn, l...)
			p := w.words()
			signals(t, "any badge", p, anNtfn, b[0], nil)
			w.wakes(anNtfn, b[1])
			like(t, "any badge, woken", p, w)
		}
	}
}

// P16.1: bits that are there, that aren't, and some of both; each is there once.
func TestBits(t *testing.T) {
	for _, x := range [][3]int{{5, 5, 5}, {5, 4, 5}, {5, 2, 7}, {5, 6, 7}, {5, 10, 15}, {5, 0, 5}, {0, 0, 0},
		{0xFF00, 0x00FF, 0xFFFF}, {0xFFFF, 1, 0xFFFF}, {0x8000, 0x8001, 0x8001}, {1, 1, 1}, {3, 1, 3}} {
		w := begun()
		p := w.words()
		signals(t, "bits", p, anNtfn, x[0], nil)
		signals(t, "bits", p, anNtfn, x[1], nil)
		w.ends[anNtfn].f1 = x[2]
		like(t, "bits", p, w)
		signals(t, "another one's", p, otherNtfn, 64, nil)
		w.ends[otherNtfn].f1 = 64
		like(t, "another one's bits", p, w)
		polls(t, "bits", p, anNtfn, x[2], nil)
		w.ends[anNtfn].f1 = 0
		like(t, "bits are polled", p, w)
	}
}

// P16.1: of several that wait one is woken by each, in the order in which they came;
// behind them the word has the bits.
func TestSignalMany(t *testing.T) {
	for _, l := range [][]int{{1}, {31}, {1, 2}, {20, 0, 31, 1}, someThreads} {
		for _, obj := range []int{anNtfn, otherNtfn} {
			w := begun()
			w.blocks(obj, l...)
			p := w.words()
			for k := range l {
				signals(t, "one of several", p, obj, 300+k, nil)
				w.wakes(obj, 300+k)
				like(t, "one of several", p, w)
			}
			signals(t, "none is left", p, obj, 9, nil)
			w.ends[obj].f1 = 9
			like(t, "none is left", p, w)
		}
	}
}

// P16.1: no bits: one that waits is woken nevertheless, with word 0; with none, the
// word stays, and one that waits then does so.
func TestSignalNoBits(t *testing.T) {
	for _, badge := range []int{0, 1 << 16, -1 << 16, math.MinInt} {
		w := begun()
		w.blocks(anNtfn, 3, 1)
		p := w.words()
		signals(t, "no bits", p, anNtfn, badge, nil)
		w.wakes(anNtfn, 0)
		like(t, "no bits", p, w)
		signals(t, "no bits", p, anNtfn, badge, nil)
		w.wakes(anNtfn, 0)
		like(t, "no bits, again", p, w)
		signals(t, "no bits", p, anNtfn, badge, nil)
		like(t, "no bits, with none", p, w)
		waits(t, "no bits", p, anNtfn, 8, 0, false, nil)
		w.blocks(anNtfn, 8)
		like(t, "behind no bits", p, w)
	}
}

// P16.1: a word that isn't 0 is told, once; who is told goes on as it was, whatever
// its state.
func TestWait(t *testing.T) {
	for _, word := range []int{1, 2, 13, 1 << 15, api.MaxBadge, api.MaxBadge + 1, api.MaxWord, 1<<62 - 1, 1 << 62} {
		for _, s := range states {
			w := begun()
			w.ends[anNtfn].f1 = word
			w.ends[otherNtfn].f1 = 21
			w.threads[3].state = s
			p := w.words()
			waits(t, "a word", p, anNtfn, 3, word, true, nil)
			w.ends[anNtfn].f1 = 0
			like(t, "a word", p, w)
			waits(t, "no word", p, anNtfn, 3, 0, false, nil)
			w.blocks(anNtfn, 3)
			like(t, "no word", p, w)
		}
	}
}

// P16.1: with a word of 0: with none, and behind others that wait; what is elsewhere
// stays.
func TestWaitBlocks(t *testing.T) {
	for _, l := range [][]int{nil, {1}, {1, 2}, {20, 0, 31, 1}} {
		for _, s := range []int{endp.Ready, endp.Stopped, 7} {
			w := begun()
			w.blocks(anNtfn, l...)
			w.blocks(otherNtfn, 8, 9)
			w.threads[3].state = s
			p := w.words()
			waits(t, "no word", p, anNtfn, 3, 0, false, nil)
			w.blocks(anNtfn, 3)
			like(t, "no word", p, w)
		}
	}
}

// P16.1: who was told, or woken, waits again, at the end of the queue.
func TestWaitAgain(t *testing.T) {
	w := begun()
	p := w.words()
	for k := range 5 {
		signals(t, "a word", p, anNtfn, 1<<k, nil)
		waits(t, "told", p, anNtfn, 3, 1<<k, true, nil)
		like(t, "told, again", p, w)
	}
	waits(t, "no word", p, anNtfn, 3, 0, false, nil)
	waits(t, "no word", p, anNtfn, 31, 0, false, nil)
	w.blocks(anNtfn, 3, 31)
	like(t, "both wait", p, w)
	for k := range 6 {
		i := []int{3, 31}[k%2]
		signals(t, "one is woken", p, anNtfn, 100+k, nil)
		w.wakes(anNtfn, 100+k)
		like(t, "one is woken", p, w)
		waits(t, "no word", p, anNtfn, i, 0, false, nil)
		w.blocks(anNtfn, i)
		like(t, "it waits again", p, w)
	}
	// One that waits there already has one next one only.
	waits(t, "no word", p, anNtfn, 3, 0, false, nil)
	w.ends[anNtfn].queue = []int{31, 3}
	like(t, "it waits already", p, w)
}

// P16.1: the word, once; of none 0; who waits goes on waiting.
func TestPoll(t *testing.T) {
	for _, word := range []int{0, 1, 13, 1 << 15, api.MaxBadge, api.MaxBadge + 1, api.MaxWord, 1<<62 - 1, 1 << 62} {
		for _, l := range [][]int{nil, {1}, {20, 0, 31, 1}} {
			w := begun()
			w.ends[anNtfn].f1 = word
			w.ends[otherNtfn].f1 = 21
			w.blocks(anNtfn, l...)
			p := w.words()
			polls(t, "a word", p, anNtfn, word, nil)
			w.ends[anNtfn].f1 = 0
			like(t, "a word", p, w)
			polls(t, "no word", p, anNtfn, 0, nil)
			like(t, "no word", p, w)
		}
	}
}

// P16.2: one that waits, and is Stopped (layer 15), is woken by nothing: the next one
// is, or the word has the bits; the word stays.
func TestStopped(t *testing.T) {
	w := begun()
	w.blocks(anNtfn, 3, 1)
	p := w.words()
	endp.Cancel(p, 3)
	w.ends[anNtfn].queue = []int{1}
	w.threads[3].state, w.threads[3].on = endp.Stopped, -1
	like(t, "one is Stopped", p, w)
	signals(t, "the next one", p, anNtfn, 6, nil)
	w.wakes(anNtfn, 6)
	like(t, "the next one is woken", p, w)
	waits(t, "no word", p, anNtfn, 1, 0, false, nil)
	endp.Cancel(p, 1)
	w.threads[1].state = endp.Stopped
	like(t, "all are Stopped", p, w)
	signals(t, "none", p, anNtfn, 7, nil)
	w.ends[anNtfn].f1 = 7
	like(t, "none waits", p, w)
}

// P16.1: an Ntfn with a word and threads that wait, as no call leaves it: the first
// one is woken with the badge alone, and the word stays; it is told by a Wait.
func TestWordAndQueue(t *testing.T) {
	for _, word := range []int{1, 21, api.MaxBadge, 1 << 40} {
		w := begun()
		w.ends[anNtfn].f1 = word
		w.blocks(anNtfn, 3, 1)
		p := w.words()
		signals(t, "with both", p, anNtfn, 10, nil)
		w.wakes(anNtfn, 10)
		like(t, "with both", p, w)
		waits(t, "with both", p, anNtfn, 8, word, true, nil)
		w.ends[anNtfn].f1 = 0
		like(t, "told", p, w)
		waits(t, "the queue alone", p, anNtfn, 8, 0, false, nil)
		w.blocks(anNtfn, 8)
		like(t, "the queue alone", p, w)
	}
}

// P16.1: a word above what a field tells is no word: none is told of it, and the bits
// that come are all that there are.
func TestWordTooGreat(t *testing.T) {
	for _, word := range []uint64{1<<62 + 1, 1<<62 + 21, 1<<63 - 1, 1 << 63, 1<<63 + 5, math.MaxUint64} {
		w := begun()
		great := w.words()
		great[at(anNtfn, f1)] = word

		p := slices.Clone(great)
		signals(t, "too great", p, anNtfn, 10, nil)
		w.ends[anNtfn].f1 = 10
		like(t, "too great, signalled", p, w)

		p = slices.Clone(great)
		polls(t, "too great", p, anNtfn, 0, nil)
		w.ends[anNtfn].f1 = 0
		like(t, "too great, polled", p, w)

		p = slices.Clone(great)
		waits(t, "too great", p, anNtfn, 3, 0, false, nil)
		w.blocks(anNtfn, 3)
		want := w.words()
		want[at(anNtfn, f1)] = word
		stays(t, "too great, waited for", p, want)
		signals(t, "too great", p, anNtfn, 10, nil)
		w.wakes(anNtfn, 10)
		want = w.words()
		want[at(anNtfn, f1)] = word
		stays(t, "too great, one is woken", p, want)
	}
}

// P16.1: who is in the queue waits, whatever its state: it is woken; a queue whose
// first one is none has none.
func TestOtherStates(t *testing.T) {
	for _, s := range append([]int{7, 1 << 40}, states...) {
		w := begun()
		w.blocks(anNtfn, 3, 8)
		p := w.words()
		p[at(3, f1)] = uint64(s)
		signals(t, "of any state", p, anNtfn, 9, nil)
		w.wakes(anNtfn, 9)
		like(t, "of any state", p, w)
	}
	for _, no := range noLinks {
		w := begun()
		p := w.words()
		p[at(anNtfn, f2)] = no
		signals(t, "an empty queue", p, anNtfn, 9, nil)
		w.ends[anNtfn].f1 = 9
		want := w.words()
		want[at(anNtfn, f2)] = no
		stays(t, "an empty queue", p, want)
		polls(t, "an empty queue", p, anNtfn, 9, nil)
		waits(t, "an empty queue", p, anNtfn, 3, 0, false, nil)
		w.ends[anNtfn].f1 = 0
		w.blocks(anNtfn, 3)
		like(t, "one waits", p, w)
	}
}

// P16.1: priorities stay, of all that wait and are woken.
func TestPriority(t *testing.T) {
	for _, prio := range []int{0, 1, 127, 128, 254, 255} {
		w := begun()
		for _, x := range w.threads {
			x.prio = prio
		}
		p := w.words()
		waits(t, "no word", p, anNtfn, 31, 0, false, nil)
		waits(t, "no word", p, anNtfn, 0, 0, false, nil)
		w.blocks(anNtfn, 31, 0)
		like(t, "they wait", p, w)
		signals(t, "one is woken", p, anNtfn, 5, nil)
		w.wakes(anNtfn, 5)
		like(t, "one is woken", p, w)
	}
}
