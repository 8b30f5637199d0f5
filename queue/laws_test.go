package queue

import (
	"math"
	"slices"
	"testing"

	"padstone/api"
	"padstone/lay"
	"padstone/stm"
	"padstone/tx"
	"padstone/view"
	"padstone/word"
)

// dice are numbers from a short rule: the same ones in each run.
type dice uint64

func (d *dice) roll(n int) int {
	*d = *d*6364136223846793005 + 1442695040888963407
	return int(uint64(*d) >> 33 % uint64(n))
}

// of is one of a list.
func (d *dice) of(l ...int) int { return l[d.roll(len(l))] }

// number is an object among those from, from + 1, .. below to, or, now and then,
// what is none.
func (d *dice) number(from, to int) int {
	if d.roll(30) == 0 {
		return d.of(noObjs...)
	}
	return from + d.roll(to-from)
}

// push is what Push is to make of queues, of a thread that is in none.
func (q queues) push(obj, thread int) { q[obj] = append(q[obj], thread) }

// pop is what Pop is to tell, -1 of none, and make of queues.
func (q queues) pop(obj int) int {
	if len(q[obj]) == 0 {
		return -1
	}
	first := q[obj][0]
	q[obj] = q[obj][1:]
	return first
}

// remove is what Remove is to tell, and make of queues.
func (q queues) remove(obj, thread int) bool {
	k := slices.Index(q[obj], thread)
	if k < 0 {
		return false
	}
	q[obj] = append(slices.Clone(q[obj][:k]), q[obj][k+1:]...)
	return true
}

// in is the object in whose queue a thread is, or -1.
func (q queues) in(thread int) int {
	for obj, l := range q {
		if slices.Contains(l, thread) {
			return obj
		}
	}
	return -1
}

// some are numbers of objects that have queues, as many as that.
func some(n int) queues {
	q := queues{}
	for obj := range n {
		q[obj] = nil
	}
	return q
}

// P14.1, P14.2: several queues at once, each with its own threads, one call
// behind the other, as lists have it, word by word.
func TestLaws(t *testing.T) {
	var d dice
	seen := map[string]int{}
	longest := 0
	for round := range 200 {
		n := 1 + round%6
		q := some(n)
		p := q.words()
		for range 300 {
			obj, thread := d.number(0, n), d.number(n, allObjs)
			switch d.roll(5) {
			case 0, 1, 2:
				switch in := q.in(thread); {
				case obj < 0 || obj >= n || thread < 0 || thread >= allObjs:
					tells(t, "laws", Push(p, obj, thread), api.ErrNone)
					seen["nothing pushed"]++
				case in < 0 || in == obj:
					q.remove(obj, thread)
					q.push(obj, thread)
					tells(t, "laws", Push(p, obj, thread), nil)
					seen["pushed"]++
				}
			case 3:
				want := q.pop(obj)
				pops(t, "laws", p, obj, want)
				seen[map[bool]string{true: "popped", false: "nothing popped"}[want >= 0]]++
			case 4:
				want := q.remove(obj, thread)
				removes(t, "laws", p, obj, thread, want)
				seen[map[bool]string{true: "removed", false: "nothing removed"}[want]]++
			}
			if !slices.Equal(p, some(n).with(q).words()) {
				t.Fatalf("round %d: %v", round, view.Changed(some(n).with(q).words(), p))
			}
			for obj := range n {
				has(t, "laws", p, obj, q[obj]...)
				longest = max(longest, len(q[obj]))
			}
		}
	}
	for _, what := range []string{"nothing pushed", "pushed", "popped", "nothing popped", "removed", "nothing removed"} {
		if seen[what] < 1000 {
			t.Errorf("%s %d times", what, seen[what])
		}
	}
	if longest < 25 {
		t.Error("the longest queue was of", longest)
	}
}

// with are queues with the lists of others, of no more objects.
func (q queues) with(others queues) queues {
	for obj := range q {
		q[obj] = others[obj]
	}
	return q
}

// P14.2: what was pushed is popped in that order, but for what was removed.
func TestInOrder(t *testing.T) {
	var d dice
	for range 2000 {
		p := some(3).words()
		var order []int
		for _, thread := range d.mixed(upTo(3, allObjs))[:1+d.roll(29)] {
			tells(t, "pushed", Push(p, 1, thread), nil)
			order = append(order, thread)
		}
		for range d.roll(10) {
			thread := 3 + d.roll(29)
			removes(t, "removed", p, 1, thread, slices.Contains(order, thread))
			order = without(order, thread)
		}
		for _, thread := range order {
			pops(t, "in order", p, 1, thread)
		}
		pops(t, "in order", p, 1, -1)
		stays(t, "all popped", p, some(3).words())
	}
}

// mixed is a list in another order.
func (d *dice) mixed(l []int) []int {
	l = slices.Clone(l)
	for i := range l {
		k := i + d.roll(len(l)-i)
		l[i], l[k] = l[k], l[i]
	}
	return l
}

// Words that no call left.

// littered are words in which F2 and F3 of the first n objects tell any of them,
// or none, or nothing that is a number.
func (d *dice) littered(n int) view.Plain {
	p := filled()
	for obj := range allObjs {
		for _, field := range []int{f2, f3} {
			switch p[at(obj, field)] = uint64(1 + d.roll(n)); d.roll(4 + n/3) {
			case 0:
				p[at(obj, field)] = 0
			case 1:
				p[at(obj, field)] = noLinks[d.roll(len(noLinks))]
			}
		}
	}
	return p
}

// behind is the object that an object's F2 tells, or -1.
func behind(p view.Plain, obj int) int {
	if obj < 0 || obj >= allObjs {
		return -1
	}
	w := p.Read(at(obj, f2))
	if w > allObjs {
		return -1
	}
	return int(w) - 1
}

// told is an object's list, of any words: 32 at most.
func told(p view.Plain, obj int) []int {
	var l []int
	for i := behind(p, obj); i >= 0 && len(l) < 32; i = behind(p, i) {
		l = append(l, i)
	}
	return l
}

// left is what a thread's leaving, the k-th of a list, is to make of any words.
func left(p view.Plain, obj int, l []int, k int) {
	ahead, last := obj, uint64(0)
	if k > 0 {
		ahead, last = l[k-1], uint64(l[k-1]+1)
	}
	if ahead == obj {
		last = 0
	}
	p.Write(at(ahead, f2), uint64(behind(p, l[k])+1))
	p.Write(at(l[k], f2), 0)
	if behind(p, ahead) < 0 {
		p.Write(at(obj, f3), last)
	}
}

// pushed is what Push is to make of any words.
func pushed(p view.Plain, obj, thread int) {
	if l := told(p, obj); slices.Contains(l, thread) {
		left(p, obj, l, slices.Index(l, thread))
	}
	last := obj
	if l := told(p, obj); len(l) > 0 {
		last = l[len(l)-1]
	}
	p.Write(at(last, f2), uint64(thread+1))
	p.Write(at(obj, f3), uint64(thread+1))
	if thread != obj {
		p.Write(at(thread, f2), 0)
	}
}

// fair holds that Push has made a thread the last one, whatever the words were,
// and that none of a list without a circle has gone.
func fair(t *testing.T, before, after view.Plain, obj, thread int) {
	t.Helper()
	was, l := told(before, obj), told(after, obj)
	last, ok := lay.Ref(after, obj, lay.F3)
	if !ok || last != thread {
		t.Fatalf("the last one of %d is %d, %v, not %d", obj, last, ok, thread)
	}
	if thread == obj {
		return
	}
	if len(l) == 0 || len(l) > allObjs || l[len(l)-1] != thread || slices.Index(l, thread) != len(l)-1 {
		t.Fatalf("%d was pushed: %v, then %v", thread, was, l)
	}
	if want := append(without(was, thread), thread); len(was) < allObjs && !slices.Equal(l, want) {
		t.Fatalf("%d was pushed: %v, then %v, want %v", thread, was, l, want)
	}
}

// P14.1, P1 of the whole, R3: whatever the words, each call ends, and does what
// its promise says, of words as they are gone through.
func TestLittered(t *testing.T) {
	var d dice
	seen := map[string]int{}
	for round := range 40000 {
		n := []int{2, 3, 6, 20, 32}[round%5]
		p := d.littered(n)
		want := slices.Clone(p)
		for range 6 {
			obj, thread := d.number(0, n), d.number(0, n)
			before := slices.Clone(p)
			l := told(want, obj)
			if len(l) == allObjs {
				seen["long"]++
			}
			has(t, "littered", p, obj, l...)
			switch call := d.roll(3); {
			case call == 0 && (obj < 0 || obj >= allObjs || thread < 0 || thread >= allObjs):
				tells(t, "littered", Push(p, obj, thread), api.ErrNone)
				seen["nothing pushed"]++
			case call == 0:
				pushed(want, obj, thread)
				tells(t, "littered", Push(p, obj, thread), nil)
				fair(t, before, p, obj, thread)
				seen["pushed"]++
			case call == 1 && len(l) == 0:
				pops(t, "littered", p, obj, -1)
				seen["nothing popped"]++
			case call == 1:
				left(want, obj, l, 0)
				pops(t, "littered", p, obj, l[0])
				seen["popped"]++
			default:
				k := slices.Index(l, thread)
				removes(t, "littered", p, obj, thread, k >= 0)
				if k < 0 {
					seen["nothing removed"]++
					break
				}
				left(want, obj, l, k)
				seen["removed"]++
			}
			if !slices.Equal(p, want) {
				t.Fatalf("round %d: %v, of %v", round, view.Changed(want, p), view.Changed(p, want))
			}
		}
	}
	for _, what := range []string{"long", "nothing pushed", "pushed", "nothing popped", "popped", "nothing removed", "removed"} {
		if seen[what] < 3000 {
			t.Errorf("%s %d times", what, seen[what])
		}
	}
}

// P14.1: lists that run in a circle: 32 are told, of any circle, reached from
// outside or through the object itself; all can be popped nevertheless.
func TestCircles(t *testing.T) {
	for _, x := range []struct {
		what   string
		tail   []int
		circle []int
	}{
		{"of one", nil, []int{5}},
		{"of two", nil, []int{5, 3}},
		{"of itself", nil, []int{7}},
		{"of itself and another one", nil, []int{5, 7}},
		{"of five, behind others", []int{0, 31, 1}, []int{5, 3, 9, 8, 6}},
		{"of one, behind all others", upTo(8, 32), []int{0}},
		{"of all others", nil, append(upTo(8, 32), upTo(0, 7)...)},
		{"of all", nil, append(upTo(8, 32), upTo(0, 8)...)},
	} {
		p := filled()
		way := append(slices.Concat([]int{7}, x.tail, x.circle), x.circle[0])
		for k, i := range way[1:] {
			p[at(way[k], f2)] = uint64(i + 1)
		}
		want := slices.Concat(x.tail, slices.Repeat(x.circle, 33))[:32]
		has(t, x.what, p, 7, want...)
		if q := slices.Clone(p); Remove(q, 7, 2) != slices.Contains(want, 2) {
			t.Error(x.what, "removed of a circle")
		}
		for k, thread := range slices.Concat(x.tail, x.circle) {
			q := slices.Clone(p)
			l := told(q, 7)
			left(q, 7, l, slices.Index(l, thread))
			r := slices.Clone(p)
			removes(t, x.what, r, 7, thread, true)
			stays(t, x.what, r, q)
			if k == 0 {
				pops(t, x.what, p, 7, thread)
				stays(t, x.what, p, q)
			}
		}
		many := 1
		for _, ok := Pop(p, 7); ok; _, ok = Pop(p, 7) {
			if many++; many > 33 {
				t.Fatal(x.what, "popped without an end")
			}
		}
		has(t, x.what, p, 7)
	}
}

// P14.1: what runs into another queue tells its threads, too, from there on.
func TestIntoAnother(t *testing.T) {
	p := queues{7: {5, 3}, 8: {0, 1, 2}}.words()
	p[at(3, f2)] = 1 + 1
	has(t, "into another one", p, 7, 5, 3, 1, 2)
	has(t, "the other one", p, 8, 0, 1, 2)
	removes(t, "of the other one", p, 7, 1, true)
	has(t, "of the other one", p, 7, 5, 3, 2)
	has(t, "cut off", p, 8, 0, 1)
	for _, thread := range []int{5, 3, 2} {
		pops(t, "of both", p, 7, thread)
	}
	pops(t, "of both", p, 7, -1)
	for _, thread := range []int{0, 1} {
		pops(t, "what is left", p, 8, thread)
	}
	pops(t, "what is left", p, 8, -1)
	stays(t, "all popped", p, queues{7: nil, 8: nil}.words())

	p = queues{7: {5}, 8: {0, 1}}.words()
	p[at(5, f2)] = 8 + 1
	has(t, "through the other object", p, 7, 5, 8, 0, 1)
	tells(t, "through the other object", Push(p, 7, 9), nil)
	has(t, "through the other object", p, 7, 5, 8, 0, 1, 9)
	has(t, "the other one's", p, 8, 0, 1, 9)
}

// P14.1, P1 of the whole: views that have fewer words than there are read 0 there,
// and nothing is written; of one that has more, those behind all stay.
func TestOtherViews(t *testing.T) {
	var d dice
	for _, words := range []int{0, 1, 480, 481, 482, 483, 484, 490, 491, 492, 500, 600, 730, 731, 732, 736, 737, 738, 739, 900} {
		for range 300 {
			all := append(d.littered(10), slices.Repeat([]uint64{1, 3, 6}, 60)...)
			p := all[:words:words]
			q, rest := slices.Clone(p), slices.Clone(all[words:])
			for range 4 {
				obj, thread := d.roll(10), d.roll(allObjs)
				l := told(q, obj)
				has(t, "another view", p, obj, l...)
				switch d.roll(3) {
				case 0:
					pushed(q, obj, thread)
					tells(t, "another view", Push(p, obj, thread), nil)
				case 1:
					want := -1
					if len(l) > 0 {
						want = l[0]
						left(q, obj, l, 0)
					}
					pops(t, "another view", p, obj, want)
				case 2:
					k := slices.Index(l, thread)
					if k >= 0 {
						left(q, obj, l, k)
					}
					removes(t, "another view", p, obj, thread, k >= 0)
				}
				stays(t, "another view", p, q)
				stays(t, "behind another view", all[words:], rest)
			}
		}
	}
	var p view.Plain
	tells(t, "of no words", Push(p, 0, 31), nil)
	tells(t, "of no words", Push(p, 0, 32), api.ErrNone)
	pops(t, "of no words", p, 0, -1)
	removes(t, "of no words", p, 0, 31, false)
	has(t, "of no words", p, 0)
}

// P14.1: of a view that ends in the midst of the objects those behind have no next one.
func TestOfHalf(t *testing.T) {
	p := queues{3: {0, 20, 1}}.words()[:at(12, 0)]
	has(t, "cut off", p, 3, 0, 20)
	tells(t, "behind the end", Push(p, 3, 2), nil)
	has(t, "behind the end", p, 3, 0, 20)
	removes(t, "behind the end", p, 3, 20, true)
	has(t, "behind the end", p, 3, 0)
	tells(t, "ahead of the end", Push(p, 3, 2), nil)
	has(t, "ahead of the end", p, 3, 0, 2)
}

// storeOf is a store of words.
func storeOf(t *testing.T, words view.Plain) *word.Store {
	t.Helper()
	s, err := word.New(len(words), api.MaxVersion)
	if err != nil {
		t.Fatal(err)
	}
	for i, w := range words {
		s.Set(i, w)
	}
	return s
}

// done is what a function does to words, as a record (layer 6) has it that learns
// a store's cells, and of how many cells.
func done(t *testing.T, words view.Plain, f func(v view.View)) (view.Plain, int) {
	t.Helper()
	s, r := storeOf(t, words), tx.New(len(words))
	for i, ok := r.Run(f); !ok; i, ok = r.Run(f) {
		c, _ := s.Read(i)
		r.Learn(i, c)
	}
	got := slices.Clone(words)
	for _, e := range r.Entries() {
		got[e.Cell] = e.New
	}
	return got, r.Reads()
}

// P14.1, P14.2: of a view that isn't a plain one, a record, all comes to what a
// plain view does, and no more cells are read than F2 of all, and the object's F3.
func TestOfRecords(t *testing.T) {
	all := append(upTo(0, 7), upTo(8, 32)...)
	for _, l := range [][]int{nil, {5}, {5, 3}, {0, 31, 1, 30}, all} {
		for _, thread := range []int{0, 5, 9, 31} {
			got, reads := done(t, queues{7: l}.words(), func(v view.View) { Push(v, 7, thread) })
			stays(t, "pushed, of a record", got, queues{7: append(without(l, thread), thread)}.words())
			if reads > len(l)+3 {
				t.Errorf("%d cells are read to push", reads)
			}
			got, reads = done(t, queues{7: l}.words(), func(v view.View) { Remove(v, 7, thread) })
			stays(t, "removed, of a record", got, queues{7: without(l, thread)}.words())
			if reads > len(l)+2 {
				t.Errorf("%d cells are read to remove", reads)
			}
		}
		got, reads := done(t, queues{7: l}.words(), func(v view.View) { Pop(v, 7) })
		stays(t, "popped, of a record", got, queues{7: l[min(1, len(l)):]}.words())
		if reads > 3 {
			t.Errorf("%d cells are read to pop", reads)
		}
		var told []int
		got, _ = done(t, queues{7: l}.words(), func(v view.View) { told = List(v, 7) })
		stays(t, "told, of a record", got, queues{7: l}.words())
		if !slices.Equal(told, l) {
			t.Errorf("a record's list: %v, want %v", told, l)
		}
	}
}

// P14.2: pushed, popped, removed by many at once (layer 8), in any order of steps,
// all comes to what is done one behind the other, in the log's order.
func TestAtOnce(t *testing.T) {
	var d dice
	seen := 0
	for range 60 {
		p := queues{0: nil, 1: {30, 31}}.words()
		var jobs [4][]stm.Job
		var feeds []stm.Feed
		for worker := range jobs {
			for k := range 6 {
				// Each pushes threads of its own, so that none is in two queues.
				obj, thread := d.roll(2), 4+6*worker+k
				taken := d.of(30, 31, 4+d.roll(24))
				jobs[worker] = append(jobs[worker],
					func(v view.View) int {
						if Push(v, obj, thread) != nil {
							return math.MinInt
						}
						return len(List(v, obj))
					},
					func(v view.View) int {
						if Remove(v, 1, taken) {
							return taken
						}
						n, ok := Pop(v, 1-obj)
						if !ok {
							return -1
						}
						return 100 + n
					})
			}
			feeds = append(feeds, stm.List(jobs[worker]))
		}
		s := storeOf(t, p)
		m, err := stm.New(s, feeds)
		if err != nil {
			t.Fatal(err)
		}
		for !m.Idle() {
			m.Step(d.roll(4))
		}
		gone := map[int]bool{}
		for _, e := range m.Log() {
			if n := jobs[e.Worker][e.Job](p); n != e.Told {
				t.Fatalf("job %d of worker %d told %d, in the log's order %d", e.Job, e.Worker, e.Told, n)
			}
			if e.Job%2 == 1 && e.Told >= 0 {
				if seen++; gone[e.Told%100] {
					t.Errorf("%d is gone twice", e.Told%100)
				}
				gone[e.Told%100] = true
			}
		}
		stays(t, "at once", s.Values(), p)
		if all := len(gone) + len(List(p, 0)) + len(List(p, 1)); all != 26 {
			t.Errorf("of 26 threads there are %d", all)
		}
	}
	if seen < 500 {
		t.Error("gone, in all:", seen)
	}
}
