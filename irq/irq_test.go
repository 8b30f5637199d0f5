package irq

import (
	"errors"
	"math"
	"slices"
	"testing"

	"padstone/api"
	"padstone/endp"
	"padstone/view"
)

// Words of objects, as layer 9's chapter counts them: eight an object, behind all slots.
const (
	objsAt   = 480
	objWords = 8
	kind     = 0
	f1       = 1
	f2       = 2
	f3       = 3
	f4       = 4
	f5       = 5
	f7       = 7
	allObjs  = 32
	allWords = 738
)

// at is the number of an object's word.
func at(obj, field int) int { return objsAt + objWords*obj + field }

// noObjs are numbers that no object has. Eight times some of them wraps round, to
// a word that is there.
var noObjs = []int{-1, -2, -8, -32, -33, -60, -61, -1 << 32, -1 << 60, -1<<61 + 3, -1 << 61, -1 << 62, -1<<62 + 5,
	math.MinInt + 1, math.MinInt, 32, 33, 34, 64, 96, 480, 737, 1 << 32, 1<<32 + 1, 1<<60 + 1, 1 << 61, 1<<61 + 3,
	1 << 62, 1<<62 + 5, math.MaxInt - 1, math.MaxInt}

// noLinks are words that tell no object; cut off, or as signed numbers, some would.
var noLinks = []uint64{0, 33, 34, 64, 96, 1 << 8, 1<<8 + 1, 1 << 16, 1<<16 + 1, 1 << 31, 1 << 32, 1<<32 + 1,
	1<<62 - 1, 1 << 62, 1<<62 + 1, 1<<63 - 1, 1 << 63, 1<<63 + 1, math.MaxUint64 - 1, math.MaxUint64}

// badges are such, and numbers that are none, each with its lowest 16 bits.
var badges = [][2]int{{0, 0}, {1, 1}, {2, 2}, {21, 21}, {255, 255}, {256, 256}, {1 << 15, 1 << 15}, {65534, 65534},
	{api.MaxBadge, 65535}, {65536, 0}, {65537, 1}, {1<<16 + 21, 21}, {1 << 17, 0}, {1<<17 - 1, 65535}, {1<<17 + 3, 3},
	{3 << 16, 0}, {1 << 31, 0}, {1<<31 - 1, 65535}, {1 << 32, 0}, {1<<32 + 5, 5}, {1 << 62, 0}, {1<<62 + 6, 6},
	{math.MaxInt, 65535}, {math.MaxInt - 1, 65534}, {-1, 65535}, {-2, 65534}, {-65535, 1}, {-65536, 0}, {-65537, 65535},
	{-1 << 17, 0}, {-1 << 62, 0}, {-1<<62 + 7, 7}, {math.MinInt, 0}, {math.MinInt + 1, 1}}

// otherKinds are Kinds' words of what is neither an Irq nor a Ntfn; cut off, some would be.
var otherKinds = []uint64{api.Null, api.Untyped, api.CNode, api.Endpoint, api.Thread, api.Frame, api.Space, 9, 16 + 4, 16 + 8,
	256 + 4, 256 + 8, 1<<16 + 8, 1<<32 + 4, 1<<32 + 8, 1<<62 + 4, 1<<62 + 8, 1<<63 + 4, 1<<63 + 8, 1 << 62, math.MaxUint64}

// line is an interrupt: the Ntfn that it is bound to, or -1, its badge, and whether
// it is masked.
type line struct {
	to, badge int
	masked    bool
}

// end is a Ntfn: its word, and its queue.
type end struct {
	word  int
	queue []int
}

// thread is what a thread has that calls change. Of on -1 is none.
type thread struct{ state, word, badge, prio, on int }

// world are interrupts, Ntfns and threads, by their numbers.
type world struct {
	irqs    map[int]*line
	ntfns   map[int]*end
	threads map[int]*thread
}

// Objects of a world as it begins; others are of no kind that there is, or of the others.
var (
	someIrqs    = []int{0, 7, 12, 31}
	someNtfns   = []int{1, 6, 30}
	someThreads = []int{2, 3, 8, 9, 20, 29}
	someOthers  = map[int]int{4: api.Untyped, 5: api.Endpoint, 10: api.CNode, 11: api.Frame, 13: api.Space, 14: api.Null}
)

// begun is a world of interrupts that are bound to none, Ntfns without bits, and
// threads that are Ready, no two of which are alike.
func begun() world {
	w := world{map[int]*line{}, map[int]*end{}, map[int]*thread{}}
	for _, i := range someIrqs {
		w.irqs[i] = &line{-1, 40 + i, false}
	}
	for _, i := range someNtfns {
		w.ntfns[i] = &end{}
	}
	for k, i := range someThreads {
		w.threads[i] = &thread{endp.Ready, 5000 + i, 6000 + i, 255 - 51*k, -1}
	}
	return w
}

// filled are words no two of which are alike.
func filled() view.Plain {
	p := make(view.Plain, allWords)
	for i := range p {
		p[i] = uint64(1000 + i)
	}
	return p
}

// words are such in which that world is, all others of which are unlike each other.
func (w world) words() view.Plain {
	p := filled()
	for i, k := range someOthers {
		p[at(i, kind)] = uint64(k)
	}
	for i, x := range w.threads {
		p[at(i, kind)], p[at(i, f1)], p[at(i, f2)] = api.Thread, uint64(x.state), 0
		p[at(i, f3)], p[at(i, f4)], p[at(i, f5)] = uint64(x.word), uint64(x.badge), uint64(x.prio+256*(x.on+1))
	}
	for i, x := range w.irqs {
		p[at(i, kind)], p[at(i, f1)], p[at(i, f2)] = api.Irq, uint64(x.to+1), uint64(x.badge)
		p[at(i, f3)] = map[bool]uint64{true: 1}[x.masked]
	}
	for i, x := range w.ntfns {
		p[at(i, kind)], p[at(i, f1)], p[at(i, f2)], p[at(i, f3)] = api.Ntfn, uint64(x.word), 0, 0
		ahead := i
		for _, t := range x.queue {
			p[at(ahead, f2)], p[at(i, f3)] = uint64(t+1), uint64(t+1)
			ahead = t
		}
	}
	return p
}

// blocks lets threads of a world wait at a Ntfn, behind those that are there.
func (w world) blocks(obj int, l ...int) {
	e := w.ntfns[obj]
	for _, i := range l {
		w.threads[i].state, w.threads[i].on = endp.Waiting, obj
		e.queue = append(slices.Clone(e.queue), i)
	}
}

// signals is what a Ntfn and who waits there come to: whether one was woken.
func (w world) signals(obj, badge int) bool {
	e := w.ntfns[obj]
	if len(e.queue) == 0 {
		e.word |= badge
		return false
	}
	x := w.threads[e.queue[0]]
	x.state, x.word, x.badge, x.on = endp.Ready, badge, 0, -1
	e.queue = slices.Clone(e.queue[1:])
	return true
}

// binds is what Bind is to tell, and make of a world, by the badge's lowest bits.
func (w world) binds(obj, target, bits int) error {
	x, is := w.irqs[obj]
	if _, one := w.ntfns[target]; !is || !one {
		return api.ErrNone
	}
	*x = line{target, bits, false}
	return nil
}

// fires is what Fire is to tell, and make of a world.
func (w world) fires(obj int) (bool, error) {
	x, is := w.irqs[obj]
	if !is {
		return false, api.ErrNone
	}
	if x.to < 0 || x.masked {
		return false, nil
	}
	w.signals(x.to, x.badge)
	x.masked = true
	return true, nil
}

// acks is what Ack is to tell, and make of a world.
func (w world) acks(obj int) error {
	x, is := w.irqs[obj]
	if !is {
		return api.ErrNone
	}
	if !x.masked {
		return api.ErrState
	}
	x.masked = false
	return nil
}

// stays holds that words are just those.
func stays(t *testing.T, what string, p, want view.Plain) {
	t.Helper()
	if !slices.Equal(p, want) {
		t.Errorf("%s: words unlike those that are to be: %v, of %v", what, view.Changed(want, p), view.Changed(p, want))
	}
}

// tells holds an error, itself, against what it is to be.
func tells(t *testing.T, what string, err, want error) {
	t.Helper()
	if !errors.Is(err, want) || want == nil && err != nil {
		t.Errorf("%s: %v, want %v", what, err, want)
	}
	if c, ok := err.(api.Code); err != nil && (!ok || c != want) {
		t.Errorf("%s: %v isn't the Code itself", what, err)
	}
}

// fires holds what Fire tells against what it is to tell.
func fires(t *testing.T, what string, v view.View, obj int, want bool, wantErr error) {
	t.Helper()
	is, err := Fire(v, obj)
	tells(t, what, err, wantErr)
	if is != want {
		t.Errorf("%s: %d fires: %v, want %v", what, obj, is, want)
	}
}

// bindsOne calls Bind, and holds what it tells, and each word, against a world.
func bindsOne(t *testing.T, what string, p view.Plain, w world, obj, target, badge int) error {
	t.Helper()
	want := w.binds(obj, target, badge%65536)
	tells(t, what, Bind(p, obj, target, badge), want)
	stays(t, what, p, w.words())
	return want
}

// firesOne calls Fire, and holds what it tells, and each word, against a world.
func firesOne(t *testing.T, what string, p view.Plain, w world, obj int) bool {
	t.Helper()
	want, err := w.fires(obj)
	fires(t, what, p, obj, want, err)
	stays(t, what, p, w.words())
	return want
}

// acksOne calls Ack, and holds what it tells, and each word, against a world.
func acksOne(t *testing.T, what string, p view.Plain, w world, obj int) error {
	t.Helper()
	want := w.acks(obj)
	tells(t, what, Ack(p, obj), want)
	stays(t, what, p, w.words())
	return want
}

// The chapter's example: Bind, Fire, Fire: true, false.
func TestExample(t *testing.T) {
	p := make(view.Plain, allWords)
	p[at(7, kind)], p[at(6, kind)] = api.Irq, api.Ntfn
	tells(t, "Bind", Bind(p, 7, 6, 1), nil)
	fires(t, "Fire", p, 7, true, nil)
	fires(t, "Fire, again", p, 7, false, nil)
}

// P19.1: one call behind the other, each word by word, as numbers.
func TestWords(t *testing.T) {
	p, want := make(view.Plain, allWords), make(view.Plain, allWords)
	set := func(obj int, l ...int) {
		for i, n := range l {
			want[at(obj, i)] = uint64(n)
		}
	}
	set(7, 8)
	set(6, 4)
	set(5, 4)
	set(2, 5, 5, 0, 77, 78, 9+256*6)
	set(5, 4, 0, 3, 3)
	copy(p, want)

	fires(t, "bound to none", p, 7, false, nil)
	tells(t, "not masked", Ack(p, 7), api.ErrState)
	stays(t, "as it began", p, want)
	tells(t, "bound", Bind(p, 7, 6, 12), nil)
	set(7, 8, 7, 12, 0)
	stays(t, "bound", p, want)
	tells(t, "bound, not masked", Ack(p, 7), api.ErrState)
	stays(t, "bound, not masked", p, want)
	fires(t, "none waits", p, 7, true, nil)
	set(7, 8, 7, 12, 1)
	set(6, 4, 12, 0, 0)
	stays(t, "none waits", p, want)
	fires(t, "masked", p, 7, false, nil)
	stays(t, "masked", p, want)
	tells(t, "acknowledged", Ack(p, 7), nil)
	set(7, 8, 7, 12, 0)
	stays(t, "acknowledged", p, want)
	tells(t, "acknowledged twice", Ack(p, 7), api.ErrState)
	fires(t, "behind it", p, 7, true, nil)
	set(7, 8, 7, 12, 1)
	stays(t, "behind it", p, want)
	tells(t, "bound elsewhere, masked", Bind(p, 7, 5, 1<<16+3), nil)
	set(7, 8, 6, 3, 0)
	stays(t, "bound elsewhere, masked", p, want)
	fires(t, "one waits", p, 7, true, nil)
	set(7, 8, 6, 3, 1)
	set(2, 5, 1, 0, 3, 0, 9)
	set(5, 4, 0, 0, 0)
	stays(t, "one waits", p, want)
	tells(t, "acknowledged", Ack(p, 7), nil)
	fires(t, "none waits any more", p, 7, true, nil)
	set(5, 4, 3, 0, 0)
	stays(t, "none waits any more", p, want)
}

// full is a world of interrupts that are bound, masked, both, and neither, of threads
// that wait, and of a Ntfn that has bits.
func full() world {
	w := begun()
	w.irqs[7] = &line{6, 5, false}
	w.irqs[12] = &line{1, 9, true}
	w.irqs[31] = &line{-1, 3, true}
	w.ntfns[30].word = 21
	w.blocks(6, 20, 2)
	w.blocks(1, 9)
	return w
}

// P19.1, R1, R3, P1 of the whole: objects that there aren't, as the interrupt, as the
// Ntfn, and both, by any badge: no word is changed.
func TestNone(t *testing.T) {
	before := append(full().words(), full().words()...)
	p := slices.Clone(before)
	for _, no := range noObjs {
		for _, b := range badges {
			for _, other := range []int{0, 7, 12, 31, 6, 30, no} {
				tells(t, "no interrupt", Bind(p, no, other, b[0]), api.ErrNone)
				tells(t, "no Ntfn", Bind(p, other, no, b[0]), api.ErrNone)
			}
		}
		fires(t, "no interrupt", p, no, false, api.ErrNone)
		tells(t, "no interrupt", Ack(p, no), api.ErrNone)
	}
	stays(t, "none", p, before)
}

// P19.1, R1, R3: objects of every other Kind in the interrupt's place, whose fields
// would do, bound or not, masked or not: no word is changed.
func TestNoIrq(t *testing.T) {
	for _, k := range append([]uint64{api.Ntfn}, otherKinds...) {
		for _, x := range []line{{6, 5, false}, {6, 5, true}, {-1, 5, false}, {-1, 5, true}, {30, 0, false}} {
			for _, obj := range someIrqs {
				w := full()
				*w.irqs[obj] = x
				p := w.words()
				p[at(obj, kind)] = k
				before := slices.Clone(p)
				for _, target := range []int{6, 1, 30, obj, 7, 4, -1, 32} {
					tells(t, "no Irq", Bind(p, obj, target, 3), api.ErrNone)
				}
				fires(t, "no Irq", p, obj, false, api.ErrNone)
				tells(t, "no Irq", Ack(p, obj), api.ErrNone)
				stays(t, "no Irq", p, before)
			}
		}
	}
}

// P19.1, R1, R3: objects of every other Kind in the Ntfn's place: an interrupt stays
// as it was, bound or not, masked or not.
func TestNoNtfn(t *testing.T) {
	for _, k := range append([]uint64{api.Irq}, otherKinds...) {
		for _, target := range someNtfns {
			w := full()
			p := w.words()
			p[at(target, kind)] = k
			before := slices.Clone(p)
			for _, obj := range append([]int{target, 6, 4, -1, 32}, someIrqs...) {
				for _, b := range badges {
					tells(t, "no Ntfn", Bind(p, obj, target, b[0]), api.ErrNone)
				}
			}
			stays(t, "no Ntfn", p, before)
		}
	}
}

// P19.1, R3: of all objects each in the interrupt's place, and each in the Ntfn's; a
// Ntfn in the interrupt's, and the other way round.
func TestAllObjects(t *testing.T) {
	for i := range allObjs {
		for j := range allObjs {
			w := full()
			p := w.words()
			bindsOne(t, "any objects", p, w, i, j, 6)
			firesOne(t, "any object", p, w, i)
			acksOne(t, "any object", p, w, i)
			firesOne(t, "any other object", p, w, j)
			acksOne(t, "any other object", p, w, j)
			bindsOne(t, "the other way round", p, w, j, i, 6)

			// Just these two, of which each may be the first object, or the last one.
			if i == j {
				continue
			}
			w = world{map[int]*line{i: {-1, 0, true}}, map[int]*end{j: {}}, map[int]*thread{}}
			p = w.words()
			if err := bindsOne(t, "two objects", p, w, i, j, 11); err != nil {
				t.Fatal(err)
			}
			if n := p[at(i, f1)]; n != uint64(j+1) {
				t.Errorf("%d is bound to %d: its F1 is %d", i, j, n)
			}
			if !firesOne(t, "two objects", p, w, i) || firesOne(t, "two objects, again", p, w, i) || p[at(j, f1)] != 11 {
				t.Errorf("%d fires, which is bound to %d: its F3 is %d, the other's F1 %d", i, j, p[at(i, f3)], p[at(j, f1)])
			}
			acksOne(t, "two objects", p, w, i)
		}
	}
}

// P19.1: badges, and numbers that are none: their lowest 16 bits are bound, and
// signalled, to a word, and to one that waits.
func TestBadges(t *testing.T) {
	for _, b := range badges {
		for _, word := range []int{0, 5, 1 << 15, api.MaxBadge, 1 << 40} {
			for _, waiting := range [][]int{nil, {3}, {29, 8, 2}} {
				for _, masked := range []bool{false, true} {
					w := full()
					*w.irqs[7] = line{1, 77, masked}
					w.ntfns[30].word = word
					w.blocks(30, waiting...)
					p := w.words()
					w.binds(7, 30, b[1])
					tells(t, "any badge", Bind(p, 7, 30, b[0]), nil)
					stays(t, "any badge", p, w.words())
					if n := p[at(7, f2)]; n != uint64(b[1]) {
						t.Errorf("bound by badge %d: %d", b[0], n)
					}
					if !firesOne(t, "any badge fires", p, w, 7) {
						t.Errorf("badge %d doesn't fire", b[0])
					}
					if len(waiting) == 0 && p[at(30, f1)] != uint64(word|b[1]) {
						t.Errorf("word %d, badge %d: %d", word, b[0], p[at(30, f1)])
					}
					if len(waiting) > 0 && p[at(waiting[0], f3)] != uint64(b[1]) {
						t.Errorf("badge %d: %d is told %d", b[0], waiting[0], p[at(waiting[0], f3)])
					}
					firesOne(t, "any badge, masked", p, w, 7)
				}
			}
		}
	}
}

// P19.1: badges whose lowest 16 bits are 0: it is true, and masked, nevertheless; who
// waits is woken.
func TestNoBits(t *testing.T) {
	for _, badge := range []int{0, 1 << 16, -1 << 16, 1 << 32, math.MinInt} {
		w := begun()
		w.blocks(6, 3, 20)
		p := w.words()
		bindsOne(t, "no bits", p, w, 7, 6, badge)
		for range 4 {
			if !firesOne(t, "no bits", p, w, 7) || firesOne(t, "no bits, again", p, w, 7) {
				t.Error("no bits: not true, false, by badge", badge)
			}
			if err := acksOne(t, "no bits", p, w, 7); err != nil {
				t.Error("no bits: not masked, by badge", badge)
			}
		}
		if len(w.ntfns[6].queue) > 0 || w.ntfns[6].word != 0 {
			t.Error("no bits: wait:", w.ntfns[6].queue, "word:", w.ntfns[6].word)
		}
	}
}

// P19.1: what is bound, to the same Ntfn and to another one, masked and not masked, by
// the same badge and another one: it isn't masked behind that, and signals that one.
func TestBindAgain(t *testing.T) {
	for _, masked := range []bool{false, true} {
		for _, from := range []int{-1, 6, 30} {
			for _, to := range []int{6, 30, 1} {
				for _, badge := range []int{5, 10, 0} {
					w := begun()
					w.irqs[0] = &line{from, 5, masked}
					w.irqs[7] = &line{from, 5, masked}
					w.blocks(1, 8)
					p := w.words()
					if err := bindsOne(t, "bound again", p, w, 7, to, badge); err != nil {
						t.Fatal(err)
					}
					if err := acksOne(t, "bound again", p, w, 7); err == nil || p[at(7, f3)] != 0 {
						t.Errorf("masked %v, bound from %d to %d: %v, F3 is %d", masked, from, to, err, p[at(7, f3)])
					}
					for range 3 {
						if !firesOne(t, "bound again", p, w, 7) {
							t.Errorf("bound from %d to %d: doesn't fire", from, to)
						}
						firesOne(t, "bound again, masked", p, w, 7)
						bindsOne(t, "bound to the same", p, w, 7, to, badge)
					}
				}
			}
		}
	}
}

// P19.1: bound to none: false, however often, masked or not; acknowledged just if it
// is masked.
func TestNotBound(t *testing.T) {
	for _, masked := range []bool{false, true} {
		for _, badge := range []int{0, 1, api.MaxBadge} {
			for _, obj := range someIrqs {
				w := full()
				*w.irqs[obj] = line{-1, badge, masked}
				p := w.words()
				for range 3 {
					if firesOne(t, "bound to none", p, w, obj) {
						t.Error("bound to none:", obj, "fires")
					}
					if err := acksOne(t, "bound to none", p, w, obj); (err == nil) != masked {
						t.Errorf("bound to none, masked %v: %v", masked, err)
					}
					masked = false
				}
			}
		}
	}
}

// P19.1: while one waits at the Ntfn, several do, none does, and the Ntfn has bits
// already: by each Ack one is woken, in the order in which they came, and behind them
// the word has the bits.
func TestFire(t *testing.T) {
	for _, l := range [][]int{nil, {3}, {29}, {20, 2}, {29, 3, 20, 2}, someThreads} {
		for _, word := range []int{0, 1, 5, 18, api.MaxBadge, 1 << 40} {
			w := begun()
			w.irqs[7] = &line{30, 5, false}
			w.irqs[12] = &line{30, 64, false}
			w.blocks(30, l...)
			w.ntfns[30].word = word
			p := w.words()
			for k, i := range l {
				if !firesOne(t, "some wait", p, w, 7) || p[at(i, f1)] != endp.Ready || p[at(i, f3)] != 5 {
					t.Fatalf("of %v %d is in state %d, told %d", l, i, p[at(i, f1)], p[at(i, f3)])
				}
				if rest := len(w.ntfns[30].queue); rest != len(l)-k-1 {
					t.Fatalf("of %v %d are left", l, rest)
				}
				if firesOne(t, "some wait, masked", p, w, 7) {
					t.Fatal("masked, and it fires")
				}
				acksOne(t, "some wait", p, w, 7)
			}
			for range 2 {
				firesOne(t, "none waits", p, w, 7)
				if n := p[at(30, f1)]; n != uint64(word|5) {
					t.Errorf("none waits: word %d, want %d", n, word|5)
				}
				firesOne(t, "none waits, masked", p, w, 7)
				acksOne(t, "none waits", p, w, 7)
			}
			firesOne(t, "another one's", p, w, 12)
			firesOne(t, "another one's, masked", p, w, 12)
			firesOne(t, "behind another one's", p, w, 7)
		}
	}
}

// P19.1: masked, acknowledged, twice, and of what isn't masked; it stays bound, and no
// other one is acknowledged.
func TestAck(t *testing.T) {
	for _, obj := range someIrqs {
		for _, x := range []line{{6, 5, true}, {30, 0, true}, {-1, 7, true}, {6, 5, false}, {-1, 7, false}} {
			w := full()
			for _, other := range someIrqs {
				w.irqs[other].masked = true
			}
			*w.irqs[obj] = x
			p := w.words()
			if err := acksOne(t, "acknowledged", p, w, obj); (err == nil) != x.masked {
				t.Errorf("masked %v: %v", x.masked, err)
			}
			for range 2 {
				if err := acksOne(t, "acknowledged twice", p, w, obj); err != error(api.ErrState) {
					t.Error("acknowledged twice:", err)
				}
			}
			firesOne(t, "behind it", p, w, obj)
			acksOne(t, "behind it", p, w, obj)
		}
	}
}

// P19.1, P19.2: several interrupts of one Ntfn: each is masked, and acknowledged, for
// itself.
func TestSeveral(t *testing.T) {
	for first := range someIrqs {
		for step := 1; step < 4; step += 2 {
			w := begun()
			w.blocks(6, 3)
			p := w.words()
			for k, i := range someIrqs {
				bindsOne(t, "several", p, w, i, 6, 1<<k)
			}
			for _, call := range []string{"Fire", "Fire", "Ack", "Fire", "Ack", "Ack"} {
				for k := range someIrqs {
					i := someIrqs[(first+k*step)%len(someIrqs)]
					if call == "Fire" {
						firesOne(t, "several", p, w, i)
					} else {
						acksOne(t, "several", p, w, i)
					}
				}
			}
			if n := p[at(6, f1)]; n != 15 {
				t.Errorf("of four badges: word %d", n)
			}
		}
	}
}

// P19.1: how many objects are used is not asked: an object is what its Kind says.
func TestUsed(t *testing.T) {
	for _, n := range []uint64{0, 3, 32, math.MaxUint64} {
		p, w := begun().words(), begun()
		p[allWords-1] = n
		tells(t, "of any number that is used", Bind(p, 31, 30, 5), nil)
		fires(t, "of any number that is used", p, 31, true, nil)
		tells(t, "of any number that is used", Ack(p, 31), nil)
		w.irqs[31] = &line{30, 5, false}
		w.ntfns[30].word = 5
		want := w.words()
		want[allWords-1] = n
		stays(t, "of any number that is used", p, want)
	}
}
