package irq

import (
	"math"
	"slices"
	"testing"

	"padstone/api"
	"padstone/endp"
	"padstone/ntfn"
	"padstone/queue"
	"padstone/stm"
	"padstone/tx"
	"padstone/view"
	"padstone/word"
)

// dice are numbers from a short rule: the same ones in each run.
type dice uint64

func (d *dice) roll(n int) int {
	*d = *d*6364136223846793005 + 1442695040888963407
	return int(uint64(*d) >> 33 % uint64(n))
}

// of is one of a list.
func (d *dice) of(l ...int) int { return l[d.roll(len(l))] }

// word is one of a list of words.
func (d *dice) word(l []uint64) uint64 { return l[d.roll(len(l))] }

// mostly is one of a list, or, now and then, any number, that of an object or of none.
func (d *dice) mostly(l ...int) int {
	switch d.roll(20) {
	case 0:
		return d.of(noObjs...)
	case 1:
		return d.roll(allObjs)
	}
	return d.of(l...)
}

// badge is one, and what of it counts.
func (d *dice) badge() (int, int) {
	switch d.roll(3) {
	case 0:
		b := badges[d.roll(len(badges))]
		return b[0], b[1]
	case 1:
		b := d.roll(1 << 16)
		return b, b
	}
	b := 1 << d.roll(16)
	return b, b
}

// named is what a call was, by what it told.
func named(what string, err error) string {
	if err == nil {
		return what
	}
	return what + ": " + err.Error()
}

// counted holds that each of those was seen, so often.
func counted(t *testing.T, seen map[string]int, least int, l ...string) {
	t.Helper()
	for _, what := range l {
		if seen[what] < least {
			t.Errorf("%s %d times", what, seen[what])
		}
	}
}

// others are what layers 15 and 16 do meanwhile, to words and to a world.
func (d *dice) others(p view.Plain, w world) {
	obj, i := d.of(someNtfns...), d.of(someThreads...)
	e, x := w.ntfns[obj], w.threads[i]
	switch {
	case x.state == endp.Stopped:
		endp.Wake(p, i, 1, 2)
		*x = thread{endp.Ready, 1, 2, x.prio, -1}
	case x.state == endp.Waiting && d.roll(8) == 0:
		endp.Cancel(p, i)
		e := w.ntfns[x.on]
		e.queue = slices.DeleteFunc(slices.Clone(e.queue), func(n int) bool { return n == i })
		x.state, x.on = endp.Stopped, -1
	case x.state != endp.Ready:
	case d.roll(2) == 0:
		ntfn.Poll(p, obj)
		e.word = 0
	default:
		ntfn.Wait(p, obj, i)
		if e.word == 0 {
			w.blocks(obj, i)
		}
		e.word = 0
	}
}

// P19.1, P19.2: calls of any objects, by any badges, one behind the other, as a model
// has it, word by word; between two times at which it is acknowledged, or bound, an
// interrupt signals once at most, and one that isn't bound never.
func TestLaws(t *testing.T) {
	var d dice
	seen := map[string]int{}
	for round := range 200 {
		w := begun()
		p := w.words()
		signalled := map[int]int{} // of each, since it was acknowledged, or bound
		for range 250 {
			obj, what := d.mostly(someIrqs...), ""
			switch d.roll(6) {
			case 0:
				badge, bits := d.badge()
				target := d.mostly(someNtfns...)
				err := w.binds(obj, target, bits)
				tells(t, "laws", Bind(p, obj, target, badge), err)
				what = named("Bind", err)
				if err == nil {
					signalled[obj] = 0
				}
			case 1, 2, 3:
				is, err := w.fires(obj)
				fires(t, "laws", p, obj, is, err)
				what = named("Fire", err) + map[bool]string{true: ": true"}[is]
				if is {
					signalled[obj]++
				}
			case 4:
				err := w.acks(obj)
				tells(t, "laws", Ack(p, obj), err)
				what = named("Ack", err)
				if err == nil {
					signalled[obj] = 0
				}
			default:
				d.others(p, w)
			}
			seen[what]++
			stays(t, "laws", p, w.words())
			if signalled[obj] > 1 || signalled[obj] > 0 && p[at(obj, f1)] == 0 {
				t.Errorf("%d signalled %d times, its F1 is %d", obj, signalled[obj], p[at(obj, f1)])
			}
			if t.Failed() {
				t.Fatalf("round %d, %s of %d", round, what, obj)
			}
		}
	}
	counted(t, seen, 200, "Bind", named("Bind", api.ErrNone), "Fire", "Fire: true", named("Fire", api.ErrNone),
		"Ack", named("Ack", api.ErrNone), named("Ack", api.ErrState))
}

// P19.2: what comes of it at the Ntfn: each interrupt's bit comes once, at most, and
// just if it told so, between two times at which it is acknowledged, or bound; a bit
// of one that isn't bound never does.
func TestOnce(t *testing.T) {
	var d dice
	came, masks := 0, 0
	for range 300 {
		w := begun()
		p := w.words()
		bits := map[int]int{} // which bits each has that is bound
		open := map[int]bool{}
		for k := range 200 {
			obj := d.of(someIrqs...)
			switch d.roll(8) {
			case 0:
				bits[obj] = 1 << (k % 16)
				tells(t, "once", Bind(p, obj, 6, bits[obj]), nil)
				open[obj] = true
			case 1:
				if Ack(p, obj) == nil {
					open[obj] = true
				}
			default:
				waits := d.roll(2) == 0
				if waits {
					ntfn.Wait(p, 6, 3)
				}
				is, err := Fire(p, obj)
				tells(t, "once", err, nil)
				got, _ := ntfn.Poll(p, 6)
				if waits && endp.State(p, 3) == endp.Ready {
					got.Word |= int(p[at(3, f3)])
				}
				endp.Cancel(p, 3)
				want := 0
				if open[obj] {
					want = bits[obj]
					came++
				} else if bits[obj] != 0 {
					masks++
				}
				if got.Word != want || is != (want != 0) {
					t.Fatalf("%d fires: %v, and %d comes, want %d", obj, is, got.Word, want)
				}
				open[obj] = false
				if is {
					silent(t, p, obj)
				}
			}
		}
	}
	if came < 1000 || masks < 1000 {
		t.Error("came:", came, "masked:", masks)
	}
}

// silent holds that an interrupt that just signalled doesn't, however often it fires.
func silent(t *testing.T, p view.Plain, obj int) {
	t.Helper()
	before := slices.Clone(p)
	for range 3 {
		fires(t, "once", p, obj, false, nil)
	}
	stays(t, "once", p, before)
}

// Words that no call left. What is to be done to them is told here once more, by
// numbers of words, but for what a signal does, which is layer 16's. What the chapter
// doesn't tell of such words isn't asked here: of an interrupt that tells an object
// that is no Ntfn, of a mask that is neither 0 nor 1, of a badge above what a field
// tells, and of one that waits at its own Ntfn.

// raw are such words.
type raw view.Plain

func (p raw) read(i, field int) uint64 { return view.Plain(p).Read(at(i, field)) }

func (p raw) put(i, field int, n uint64) { view.Plain(p).Write(at(i, field), n) }

// is tells whether an object is of a kind.
func (p raw) is(i int, k uint64) bool { return i >= 0 && i < allObjs && p.read(i, kind) == k }

// to is the object that an interrupt tells, or -1.
func (p raw) to(i int) int {
	for obj := range allObjs {
		if p.read(i, f1) == uint64(obj+1) {
			return obj
		}
	}
	return -1
}

// told tells whether the chapter tells what Fire, and Ack, of an interrupt do.
func (p raw) told(i int) bool {
	to := p.to(i)
	if p.read(i, f3) > 1 || p.read(i, f2) > 1<<62 {
		return false
	}
	return to < 0 || p.is(to, api.Ntfn) && !slices.Contains(queue.List(view.Plain(p), to), i)
}

func (p raw) binds(obj, target, bits int) error {
	if !p.is(obj, api.Irq) || !p.is(target, api.Ntfn) {
		return api.ErrNone
	}
	p.put(obj, f1, uint64(target+1))
	p.put(obj, f2, uint64(bits))
	p.put(obj, f3, 0)
	return nil
}

func (p raw) fires(obj int) (bool, error) {
	if !p.is(obj, api.Irq) {
		return false, api.ErrNone
	}
	if p.to(obj) < 0 || p.read(obj, f3) == 1 {
		return false, nil
	}
	ntfn.Signal(view.Plain(p), p.to(obj), int(p.read(obj, f2)))
	p.put(obj, f3, 1)
	return true, nil
}

func (p raw) acks(obj int) error {
	if !p.is(obj, api.Irq) {
		return api.ErrNone
	}
	if p.read(obj, f3) == 0 {
		return api.ErrState
	}
	p.put(obj, f3, 0)
	return nil
}

// littered are words in which the fields of the first n objects, most of which are
// Irqs and Ntfns, tell any of them, or none, or nothing that is a number.
func (d *dice) littered(n int) view.Plain {
	p := filled()
	link := func() uint64 {
		switch d.roll(8) {
		case 0:
			return d.word(noLinks)
		case 1, 2:
			return 0
		}
		return uint64(1 + d.roll(n))
	}
	for i := range n {
		p[at(i, kind)] = uint64(d.of(api.Irq, api.Irq, api.Irq, api.Ntfn, api.Ntfn, api.Ntfn, api.Thread, api.Endpoint, 1<<40))
		p[at(i, f2)], p[at(i, f3)] = link(), link()
		switch p[at(i, kind)] {
		case api.Irq:
			p[at(i, f1)] = link()
			p[at(i, f2)] = uint64(d.of(0, 1, 5, api.MaxBadge, 1<<16, 1<<16+3, 1<<31+7, 1<<62-1, 1<<62))
			p[at(i, f3)] = uint64(d.of(0, 0, 1, 1, d.roll(8)))
		case api.Ntfn:
			p[at(i, f1)] = uint64(d.of(0, 0, 1, 21, api.MaxBadge, 1<<40))
		default:
			p[at(i, f1)] = uint64(d.roll(8))
		}
		p[at(i, f5)] = uint64(d.roll(256)) + 256*link()
		if d.roll(20) == 0 {
			p[at(i, d.of(kind, f1, f2, f3, f4, f5, f7))] = d.word(noLinks)
		}
	}
	return p
}

// kept holds that all slots, each object's Kind, and how many of both are used, are
// what they were.
func kept(t *testing.T, p view.Plain, before raw) {
	t.Helper()
	for _, x := range view.Changed(view.Plain(before), p) {
		if x.At < objsAt || x.At >= allWords-2 || (x.At-objsAt)%objWords == kind {
			t.Errorf("word %d is changed to %d", x.At, x.Val)
		}
	}
}

// anyCall does a call to words, and the same one to others as it is told here, and
// tells what it was; where the chapter tells nothing, that a call ends, without a
// change beside an error, is all that is held.
func (d *dice) anyCall(t *testing.T, p view.Plain, want raw, n int) string {
	t.Helper()
	all := make([]int, n)
	for i := range all {
		all[i] = i
	}
	obj, target := d.mostly(all...), d.mostly(all...)
	for range 3 {
		if !want.is(obj, api.Irq) {
			obj = d.mostly(all...)
		}
		if !want.is(target, api.Ntfn) {
			target = d.mostly(all...)
		}
	}
	what := d.roll(3)
	if what > 0 && want.is(obj, api.Irq) && !want.told(obj) {
		open(t, p, want, obj, map[int]rune{1: 'F', 2: 'A'}[what])
		return "not told"
	}
	switch what {
	case 0:
		badge, bits := d.badge()
		err := want.binds(obj, target, bits)
		tells(t, "littered", Bind(p, obj, target, badge), err)
		return named("Bind", err)
	case 1:
		is, err := want.fires(obj)
		fires(t, "littered", p, obj, is, err)
		return named("Fire", err) + map[bool]string{true: ": true"}[is]
	}
	err := want.acks(obj)
	tells(t, "littered", Ack(p, obj), err)
	return named("Ack", err)
}

// open does a call of which the chapter doesn't tell what it does, and lets the other
// words be as it leaves these.
func open(t *testing.T, p view.Plain, want raw, obj int, what rune) {
	t.Helper()
	is, err := call(p, obj, what)
	if err != nil && is {
		t.Error("true, and", err)
	}
	if !is {
		stays(t, "neither true nor acknowledged", p, view.Plain(want))
	}
	kept(t, p, want)
	copy(want, p)
}

// P19.1, P1 of the whole, R3: whatever the words, each call ends, and does what its
// promise says.
func TestLittered(t *testing.T) {
	var d dice
	seen := map[string]int{}
	for round := range 30000 {
		n := []int{2, 3, 6, 20, 32}[round%5]
		p := d.littered(n)
		want := raw(slices.Clone(p))
		for range 8 {
			what := d.anyCall(t, p, want, n)
			seen[what]++
			if !slices.Equal(p, view.Plain(want)) || t.Failed() {
				t.Fatalf("round %d, %s: %v, of %v", round, what, view.Changed(view.Plain(want), p), view.Changed(p, view.Plain(want)))
			}
		}
	}
	counted(t, seen, 1000, "Bind", named("Bind", api.ErrNone), "Fire", "Fire: true", named("Fire", api.ErrNone),
		"Ack", named("Ack", api.ErrNone), named("Ack", api.ErrState), "not told")
}

// P19.1: an interrupt that tells an object that there isn't never signals; its mask is
// for Ack alone; bound, it is like any other one.
func TestNoLink(t *testing.T) {
	for _, no := range noLinks {
		for _, mask := range []uint64{0, 1} {
			w := full()
			p := w.words()
			p[at(7, f1)], p[at(7, f3)] = no, mask
			want := slices.Clone(p)
			for range 2 {
				if is, _ := Fire(p, 7); is {
					t.Errorf("it tells %d, and fires", no)
				}
				stays(t, "no object", p, want)
			}
			if mask == 1 {
				tells(t, "no object, masked", Ack(p, 7), nil)
				want[at(7, f3)] = 0
			}
			tells(t, "no object", Ack(p, 7), api.ErrState)
			stays(t, "no object", p, want)
			tells(t, "no object", Bind(p, 7, 30, 8), nil)
			w.irqs[7] = &line{30, 8, false}
			stays(t, "no object", p, w.words())
			firesOne(t, "bound", p, w, 7)
		}
	}
}

// P19.1: a badge above what one may be, as no call left it: its lowest 16 bits are
// signalled, to a word, and to one that waits; the badge stays.
func TestGreatBadge(t *testing.T) {
	for _, badge := range []uint64{1 << 16, 1<<16 + 5, 1<<17 - 1, 1<<32 + 3, 1<<40 + 6, 1<<62 - 1, 1 << 62} {
		for _, l := range [][]int{nil, {3, 20}} {
			w := begun()
			w.blocks(6, l...)
			w.irqs[7] = &line{6, int(badge), false}
			p := w.words()
			stays(t, "ahead", p, w.words())
			fires(t, "a great badge", p, 7, true, nil)
			w.signals(6, int(badge%65536))
			w.irqs[7].masked = true
			stays(t, "a great badge", p, w.words())
			acksOne(t, "a great badge", p, w, 7)
			tells(t, "a great badge", Bind(p, 7, 6, int(badge)), nil)
			w.irqs[7].badge = int(badge % 65536)
			stays(t, "a great badge, bound", p, w.words())
		}
	}
}

// P19.1, P1 of the whole: whatever an interrupt tells, its mask, its badge: each call
// ends; Bind leaves what it always leaves.
func TestAnyFields(t *testing.T) {
	words := append([]uint64{1, 2, 3, 5, 6, 7, 8, 9, 11, 12, 14, 15, 31, 32}, noLinks...)
	for _, to := range words {
		for _, mask := range words {
			for _, badge := range []uint64{0, 5, 1 << 16, math.MaxUint64} {
				if slices.Contains([]uint64{2, 7, 31}, to) && mask < 2 && badge < 1<<16 {
					continue // that is what other tests hold
				}
				begin := full().words()
				begin[at(7, f1)], begin[at(7, f2)], begin[at(7, f3)] = to, badge, mask
				for _, calls := range []string{"F", "A", "FF", "FA", "AF", "AA", "FAF", "AFA", "FAFAFA"} {
					p := slices.Clone(begin)
					for _, c := range calls {
						before := slices.Clone(p)
						if is, err := call(p, 7, c); !is || err != nil {
							stays(t, "not done", p, before)
						}
						kept(t, p, raw(before))
					}
					q := slices.Clone(p)
					tells(t, "any fields", Bind(p, 7, 30, 8), nil)
					q[at(7, f1)], q[at(7, f2)], q[at(7, f3)] = 31, 8, 0
					stays(t, "any fields, bound", p, q)
					fires(t, "any fields, bound", p, 7, true, nil)
					fires(t, "any fields, masked", p, 7, false, nil)
				}
				if t.Failed() {
					t.Fatalf("of words %d, %d, %d", to, badge, mask)
				}
			}
		}
	}
}

// call is Fire, or Ack, which is true if it tells no error.
func call(v view.View, obj int, c rune) (bool, error) {
	if c == 'F' {
		return Fire(v, obj)
	}
	err := Ack(v, obj)
	return err == nil, err
}

// P19.1, P1 of the whole: queues that run in a circle, of which the Ntfn, or the
// interrupt itself, may be one: each call ends.
func TestCircles(t *testing.T) {
	for _, circle := range [][]int{{3}, {3, 2}, {6}, {6, 3}, {7}, {7, 3}, {3, 7, 2}, {3, 2, 20, 8, 29}} {
		w := begun()
		w.irqs[7] = &line{6, 5, false}
		p := w.words()
		for k, i := range circle {
			p[at(append([]int{6}, circle...)[k], f2)] = uint64(i + 1)
		}
		p[at(circle[len(circle)-1], f2)] = uint64(circle[0] + 1)
		want := raw(slices.Clone(p))
		for range 40 {
			if !want.told(7) {
				call(p, 7, 'F')
				call(p, 7, 'A')
				kept(t, p, want)
				copy(want, p)
				continue
			}
			is, err := want.fires(7)
			fires(t, "in a circle", p, 7, is, err)
			stays(t, "in a circle", p, view.Plain(want))
			tells(t, "in a circle", Ack(p, 7), want.acks(7))
			stays(t, "in a circle, acknowledged", p, view.Plain(want))
		}
	}
}

// P19.1, P1 of the whole: views that have fewer words than there are read 0 there, and
// nothing is written; of one that has more, those behind all stay.
func TestOtherViews(t *testing.T) {
	var d dice
	for _, words := range []int{0, 1, 480, 481, 482, 483, 484, 485, 486, 487, 488, 490, 493, 495, 500, 600, 730, 735, 736, 737, 738, 739, 900} {
		for range 200 {
			all := append(d.littered(20), slices.Repeat([]uint64{8, 1, 4}, 60)...)
			p := all[:words:words]
			want, rest := raw(slices.Clone(p)), slices.Clone(all[words:])
			for range 6 {
				d.anyCall(t, p, want, 20)
				stays(t, "another view", p, view.Plain(want))
				stays(t, "behind another view", all[words:], rest)
			}
		}
	}
	var p view.Plain
	for _, i := range append([]int{0, 31}, noObjs...) {
		tells(t, "of no words", Bind(p, i, i, 0), api.ErrNone)
		fires(t, "of no words", p, i, false, api.ErrNone)
		tells(t, "of no words", Ack(p, i), api.ErrNone)
	}
	// Of an Irq its Kind's word alone: it is bound to none, and stays so.
	p = begun().words()[:at(12, kind)+1]
	want := slices.Clone(p)
	tells(t, "of a Kind alone", Bind(p, 12, 6, 7), nil)
	fires(t, "of a Kind alone", p, 12, false, nil)
	tells(t, "of a Kind alone", Ack(p, 12), api.ErrState)
	tells(t, "no Ntfn", Bind(p, 7, 30, 7), api.ErrNone)
	stays(t, "of a Kind alone", p, want)
}

// storeOf is a store of words.
func storeOf(t *testing.T, words view.Plain) *word.Store {
	t.Helper()
	s, err := word.New(len(words), api.MaxVersion)
	if err != nil {
		t.Fatal(err)
	}
	for i, w := range words {
		s.Set(i, w)
	}
	return s
}

// done is what a function does to words, as a record (layer 6) has it that learns
// a store's cells.
func done(t *testing.T, words view.Plain, f func(v view.View)) view.Plain {
	t.Helper()
	s, r := storeOf(t, words), tx.New(len(words))
	for i, ok := r.Run(f); !ok; i, ok = r.Run(f) {
		c, _ := s.Read(i)
		r.Learn(i, c)
	}
	got := slices.Clone(words)
	for _, e := range r.Entries() {
		got[e.Cell] = e.New
	}
	return got
}

// P19.1: of a view that isn't a plain one, a record, all comes to what a plain view
// does.
func TestOfRecords(t *testing.T) {
	var d dice
	for range 1000 {
		obj, target := d.roll(20), d.roll(20)
		badge, _ := d.badge()
		var is bool
		var err error
		for k, f := range []func(v view.View){
			func(v view.View) { is, err = false, Bind(v, obj, target, badge) },
			func(v view.View) { is, err = Fire(v, obj) },
			func(v view.View) { is, err = false, Ack(v, obj) },
		} {
			p := d.littered(20)
			p[at(obj, kind)] = api.Irq
			got := done(t, p, f)
			was, wasErr := is, err
			f(p)
			stays(t, "of a record", got, p)
			if was != is || named("", wasErr) != named("", err) {
				t.Errorf("call %d tells %v, %v of a record, %v, %v of a plain view", k, was, wasErr, is, err)
			}
		}
	}
}

// job is a call, which tells a number of what it told, 1 of a Fire that is true.
func (d *dice) job(i int) (stm.Job, int, int) {
	obj, target, bit := d.of(someIrqs...), d.of(someNtfns...), 1<<d.roll(16)
	switch what := d.roll(10); what {
	case 0, 1, 2, 3:
		return func(v view.View) int {
			if is, _ := Fire(v, obj); is {
				return 1
			}
			return 0
		}, what, obj
	case 4, 5:
		return func(v view.View) int {
			if Ack(v, obj) == nil {
				return 2
			}
			return 0
		}, what, obj
	case 6, 7:
		return func(v view.View) int {
			if Bind(v, obj, target, bit) == nil {
				return 2
			}
			return 0
		}, what, obj
	case 8:
		return func(v view.View) int {
			r, _ := ntfn.Poll(v, target)
			return 3 + r.Word
		}, what, obj
	default:
		return func(v view.View) int {
			if endp.State(v, i) == endp.Ready {
				r, _, _ := ntfn.Wait(v, target, i)
				return 3 + r.Word
			}
			return 0
		}, what, obj
	}
}

// P19.1, P19.2: fired, acknowledged and bound by many at once (layer 8), in any order
// of steps, all comes to what is done one behind the other, in the log's order; in
// that order each signals once at most.
func TestAtOnce(t *testing.T) {
	const workers, each = 4, 6
	var d dice
	trues := 0
	for range 300 {
		w := begun()
		for _, i := range someIrqs {
			w.irqs[i] = &line{d.of(someNtfns...), 1 << d.roll(16), false}
		}
		p := w.words()
		var jobs [workers][each]stm.Job
		var objs, whats [workers][each]int
		var feeds []stm.Feed
		for worker := range workers {
			for k := range each {
				jobs[worker][k], whats[worker][k], objs[worker][k] = d.job(someThreads[worker])
			}
			feeds = append(feeds, stm.List(jobs[worker][:]))
		}
		s := storeOf(t, p)
		m, err := stm.New(s, feeds)
		if err != nil {
			t.Fatal(err)
		}
		for !m.Idle() {
			m.Step(d.roll(workers))
		}
		signalled := map[int]int{}
		for _, e := range m.Log() {
			if n := jobs[e.Worker][e.Job](p); n != e.Told {
				t.Fatalf("job %d of worker %d told %d, in the log's order %d", e.Job, e.Worker, e.Told, n)
			}
			what, obj := whats[e.Worker][e.Job], objs[e.Worker][e.Job]
			switch {
			case what < 4:
				signalled[obj] += e.Told
				trues += e.Told
			case what < 8 && e.Told == 2:
				signalled[obj] = 0
			}
			if signalled[obj] > 1 {
				t.Fatalf("%d signals %d times", obj, signalled[obj])
			}
		}
		stays(t, "at once", s.Values(), p)
	}
	if trues < 500 {
		t.Error("true, in all:", trues)
	}
}
