package queue

import (
	"errors"
	"math"
	"slices"
	"testing"

	"padstone/api"
	"padstone/view"
)

// Words of objects, as layer 9's chapter counts them: eight an object, behind all slots.
const (
	objsAt   = 480
	objWords = 8
	f2       = 2
	f3       = 3
	allObjs  = 32
	allWords = 738
)

// at is the number of an object's word.
func at(obj, field int) int { return objsAt + objWords*obj + field }

// noObjs are numbers that no object has. Eight times some of them wraps round, to
// a word that is there.
var noObjs = []int{-1, -2, -8, -32, -33, -60, -61, -1 << 32, -1 << 60, -1<<61 + 3, -1 << 61, -1 << 62, -1<<62 + 5,
	math.MinInt + 1, math.MinInt, 32, 33, 34, 64, 96, 480, 737, 1 << 32, 1<<32 + 1, 1<<60 + 1, 1 << 61, 1<<61 + 3,
	1 << 62, 1<<62 + 5, math.MaxInt - 1, math.MaxInt}

// noLinks are words that tell no object; cut off, or as signed numbers, some would.
var noLinks = []uint64{0, 33, 34, 64, 96, 1 << 8, 1<<8 + 1, 1 << 16, 1<<16 + 1, 1 << 31, 1 << 32, 1<<32 + 1,
	1<<62 - 1, 1 << 62, 1<<62 + 1, 1<<63 - 1, 1 << 63, 1<<63 + 1, math.MaxUint64 - 1, math.MaxUint64}

// queues are of each object that has a queue the threads in it, in order.
type queues map[int][]int

// filled are words in which no object's F2 tells a thread, each of the others
// unlike all of them.
func filled() view.Plain {
	p := make(view.Plain, allWords)
	for i := range p {
		p[i] = uint64(1000 + i)
	}
	for obj := range allObjs {
		p[at(obj, f2)] = 0
	}
	return p
}

// words are such in which those queues are, and no others.
func (q queues) words() view.Plain {
	p := filled()
	for obj, l := range q {
		p[at(obj, f3)] = 0
		ahead := obj
		for _, thread := range l {
			p[at(ahead, f2)], p[at(obj, f3)] = uint64(thread+1), uint64(thread+1)
			ahead = thread
		}
	}
	return p
}

// stays holds that words are just those.
func stays(t *testing.T, what string, p, want view.Plain) {
	t.Helper()
	if !slices.Equal(p, want) {
		t.Errorf("%s: words unlike those that are to be: %v, of %v", what, view.Changed(want, p), view.Changed(p, want))
	}
}

// tells holds Push's error, itself, against what it is to be.
func tells(t *testing.T, what string, err, want error) {
	t.Helper()
	if !errors.Is(err, want) || want == nil && err != nil {
		t.Errorf("%s: %v, want %v", what, err, want)
	}
	if c, ok := err.(api.Code); err != nil && (!ok || c != want) {
		t.Errorf("%s: %v isn't the Code itself", what, err)
	}
}

// has holds an object's list against what it is to be.
func has(t *testing.T, what string, v view.View, obj int, want ...int) {
	t.Helper()
	if l := List(v, obj); !slices.Equal(l, want) {
		t.Errorf("%s: list of %d: %v, want %v", what, obj, l, want)
	}
}

// pops holds what is popped against what is to be; -1 is none.
func pops(t *testing.T, what string, v view.View, obj, want int) {
	t.Helper()
	n, ok := Pop(v, obj)
	if n != max(want, 0) || ok != (want >= 0) {
		t.Errorf("%s: popped of %d: %d, %v, want %d", what, obj, n, ok, want)
	}
}

// removes holds what Remove tells against what is to be.
func removes(t *testing.T, what string, v view.View, obj, thread int, want bool) {
	t.Helper()
	if Remove(v, obj, thread) != want {
		t.Errorf("%s: removed %d of %d: %v", what, thread, obj, !want)
	}
}

// upTo are the numbers from, from + 1, .. below to.
func upTo(from, to int) []int {
	var l []int
	for n := from; n < to; n++ {
		l = append(l, n)
	}
	return l
}

// without are a list's numbers but for one.
func without(l []int, n int) []int {
	return slices.DeleteFunc(slices.Clone(l), func(m int) bool { return m == n })
}

// The chapter's example.
func TestExample(t *testing.T) {
	p := make(view.Plain, allWords)
	tells(t, "the first", Push(p, 0, 3), nil)
	tells(t, "the second", Push(p, 0, 5), nil)
	pops(t, "3 and 5 pushed", p, 0, 3)
}

// P14.1: threads are pushed, each word by word, as numbers.
func TestPushWords(t *testing.T) {
	p := make(view.Plain, allWords)
	tells(t, "the first", Push(p, 1, 5), nil)
	want := make(view.Plain, allWords)
	want[490], want[491] = 6, 6 // object 1's F2 and F3
	stays(t, "the first", p, want)
	tells(t, "the second", Push(p, 1, 9), nil)
	want[522], want[491] = 10, 10 // thread 5's F2
	stays(t, "the second", p, want)
	tells(t, "the third", Push(p, 1, 0), nil)
	want[554], want[491] = 1, 1 // thread 9's F2
	stays(t, "the third", p, want)
	tells(t, "of another object", Push(p, 31, 30), nil)
	want[730], want[731] = 31, 31 // object 31's F2 and F3
	stays(t, "of another object", p, want)
	pops(t, "the first", p, 1, 5)
	want[490], want[522] = 10, 0
	stays(t, "the first is gone", p, want)
	removes(t, "the last", p, 1, 0, true)
	want[554], want[491] = 0, 10
	stays(t, "the last is gone", p, want)
	pops(t, "the only one", p, 1, 9)
	want[490], want[491] = 0, 0
	stays(t, "all are gone", p, want)
}

// P14.1: one behind the other, up to all that there can be, of words that have
// something elsewhere.
func TestPush(t *testing.T) {
	for _, obj := range []int{0, 1, 7, 30, 31} {
		q := queues{obj: nil}
		p := q.words()
		for _, thread := range without(upTo(0, allObjs), obj) {
			tells(t, "one more", Push(p, obj, thread), nil)
			q[obj] = append(q[obj], thread)
			stays(t, "one more", p, q.words())
			has(t, "one more", p, obj, q[obj]...)
		}
		for len(q[obj]) > 0 {
			pops(t, "one less", p, obj, q[obj][0])
			q[obj] = q[obj][1:]
			stays(t, "one less", p, q.words())
			has(t, "one less", p, obj, q[obj]...)
		}
		pops(t, "none", p, obj, -1)
		stays(t, "none", p, q.words())
	}
}

// P14.1: the first object and the last one, as either.
func TestEnds(t *testing.T) {
	for _, x := range [][2]int{{0, 31}, {31, 0}, {0, 1}, {1, 0}, {30, 31}, {31, 30}} {
		p := queues{x[0]: nil}.words()
		tells(t, "two of the ends", Push(p, x[0], x[1]), nil)
		stays(t, "two of the ends", p, queues{x[0]: {x[1]}}.words())
		has(t, "two of the ends", p, x[0], x[1])
		removes(t, "two of the ends", p, x[0], x[1], true)
		stays(t, "two of the ends, removed", p, queues{x[0]: nil}.words())
		tells(t, "two of the ends", Push(p, x[0], x[1]), nil)
		pops(t, "two of the ends", p, x[0], x[1])
		stays(t, "two of the ends, popped", p, queues{x[0]: nil}.words())
	}
}

// P14.1, R3, P1 of the whole: nothing is pushed if there is no such object, or
// thread, or neither.
func TestPushNone(t *testing.T) {
	before := append(queues{0: {3, 5}, 31: {30}, 1: nil}.words(), filled()...)
	p := slices.Clone(before)
	for _, no := range noObjs {
		for _, i := range append([]int{0, 1, 3, 5, 9, 30, 31}, noObjs...) {
			tells(t, "no object", Push(p, no, i), api.ErrNone)
			tells(t, "no thread", Push(p, i, no), api.ErrNone)
		}
	}
	stays(t, "none", p, before)
}

// P14.1: what is pushed has no next one, whatever its F2 told ahead.
func TestPushFilled(t *testing.T) {
	for _, w := range append([]uint64{1, 3, 4, 6, 9, 10, 32}, noLinks...) {
		for _, l := range [][]int{nil, {3}, {3, 5}, {3, 5, 0}} {
			p := queues{9: l}.words()
			p[at(8, f2)] = w
			tells(t, "one that had a next one", Push(p, 9, 8), nil)
			l = append(slices.Clone(l), 8)
			stays(t, "one that had a next one", p, queues{9: l}.words())
			has(t, "one that had a next one", p, 9, l...)
		}
	}
}

// P14.1, P14.2: what is in the queue already is the last one then; none of the
// others gets lost.
func TestPushAgain(t *testing.T) {
	all := append(upTo(0, 9), upTo(10, 32)...)
	for _, l := range [][]int{{3}, {3, 5}, {3, 5, 7}, {3, 5, 7, 0}, {31, 30, 1, 0, 2}, all} {
		for _, thread := range l {
			p := queues{9: l}.words()
			tells(t, "again", Push(p, 9, thread), nil)
			then := append(without(l, thread), thread)
			has(t, "again", p, 9, then...)
			stays(t, "again", p, queues{9: then}.words())
		}
	}
}

// P14.1: an object that is a thread of its own queue: its F2 is the first one,
// so that it has no next one of its own; it is popped behind those ahead of it.
func TestPushItself(t *testing.T) {
	for _, l := range [][]int{nil, {3}, {3, 5}, {0, 31, 5}} {
		p := queues{9: l}.words()
		tells(t, "itself", Push(p, 9, 9), nil)
		for _, thread := range l {
			pops(t, "those ahead", p, 9, thread)
		}
		pops(t, "itself", p, 9, 9)
		pops(t, "none", p, 9, -1)
		stays(t, "all popped", p, queues{9: nil}.words())
		tells(t, "itself, anew", Push(p, 9, 9), nil)
		removes(t, "itself", p, 9, 9, true)
		removes(t, "itself, again", p, 9, 9, false)
		stays(t, "removed", p, queues{9: nil}.words())
	}
}

// P14.1: of a queue of none nothing is popped, or removed, nor of what has no queue.
func TestOfNone(t *testing.T) {
	before := append(queues{0: {3, 5}, 31: {30}, 1: nil}.words(), filled()...)
	p := slices.Clone(before)
	for _, obj := range append([]int{1, 2, 7, 29, 30, 5}, noObjs...) {
		pops(t, "of none", p, obj, -1)
		has(t, "of none", p, obj)
		for _, thread := range append([]int{0, 1, 3, 5, 30, 31}, noObjs...) {
			removes(t, "of none", p, obj, thread, false)
		}
	}
	stays(t, "of none", p, before)
}

// P14.1: the first one is popped, of one, of two, of many.
func TestPop(t *testing.T) {
	for _, l := range [][]int{{5}, {5, 3}, {5, 3, 9}, {0, 31, 1, 30}, upTo(8, 32), append(upTo(0, 7), upTo(8, 32)...)} {
		p := queues{7: l}.words()
		pops(t, "the first", p, 7, l[0])
		stays(t, "the first", p, queues{7: l[1:]}.words())
		has(t, "the first", p, 7, l[1:]...)
	}
}

// P14.1: one is removed, wherever it is; the others stay, in order; again it
// isn't there.
func TestRemove(t *testing.T) {
	for _, l := range [][]int{{5}, {5, 3}, {5, 3, 9}, {5, 3, 9, 0}, {31, 30, 0, 1, 2, 8}, append(upTo(0, 7), upTo(8, 32)...)} {
		for k, thread := range l {
			p := queues{7: l}.words()
			removes(t, "one", p, 7, thread, true)
			rest := append(slices.Clone(l[:k]), l[k+1:]...)
			stays(t, "one", p, queues{7: rest}.words())
			has(t, "one", p, 7, rest...)
			removes(t, "one, again", p, 7, thread, false)
			stays(t, "one, again", p, queues{7: rest}.words())
		}
	}
}

// P14.1: what isn't in the queue isn't removed: of another one, of none, no thread.
func TestRemoveNot(t *testing.T) {
	q := queues{7: {5, 3, 9}, 8: {0}, 31: {1, 2}, 6: nil}
	p := q.words()
	for obj, l := range q {
		for _, thread := range append(upTo(0, allObjs), noObjs...) {
			if !slices.Contains(l, thread) {
				removes(t, "not there", p, obj, thread, false)
			}
		}
	}
	stays(t, "not there", p, q.words())
	for _, no := range noObjs {
		for _, thread := range append(upTo(0, allObjs), noObjs...) {
			removes(t, "of no object", p, no, thread, false)
		}
	}
	stays(t, "of no object", p, q.words())
}

// P14.1: Push behind each: behind Pop, and Remove, of the first, of the last, of
// the only one, it is the last one, and what left may come again, also to another queue.
func TestPushBehind(t *testing.T) {
	for _, l := range [][]int{{5}, {5, 3}, {5, 3, 9}, {5, 3, 9, 0}} {
		for k, thread := range l {
			p := queues{7: l, 8: {1}}.words()
			removes(t, "one", p, 7, thread, true)
			rest := append(slices.Clone(l[:k]), l[k+1:]...)
			tells(t, "another one", Push(p, 7, 20), nil)
			tells(t, "to another queue", Push(p, 8, thread), nil)
			stays(t, "another one", p, queues{7: append(rest, 20), 8: {1, thread}}.words())
			has(t, "another one", p, 7, append(rest, 20)...)

			p = queues{7: l}.words()
			removes(t, "one", p, 7, thread, true)
			tells(t, "the same", Push(p, 7, thread), nil)
			stays(t, "the same", p, queues{7: append(rest, thread)}.words())
		}
		p := queues{7: l}.words()
		pops(t, "the first", p, 7, l[0])
		tells(t, "the same", Push(p, 7, l[0]), nil)
		stays(t, "the same", p, queues{7: append(slices.Clone(l[1:]), l[0])}.words())
	}
}

// P14.1: List tells all, and changes nothing; R2: its list is new memory.
func TestList(t *testing.T) {
	q := queues{7: {5, 3, 9}, 8: {0}, 6: nil, 31: append([]int{30, 1, 2, 4}, upTo(10, 30)...)}
	p := q.words()
	for obj, l := range q {
		has(t, "all", p, obj, l...)
		a, b := List(p, obj), List(p, obj)
		for i := range a {
			a[i] = -7
		}
		a = append(a, 1, 2, 3)
		if !slices.Equal(b, l) || len(a) != len(l)+3 {
			t.Error("not new memory:", a, b)
		}
	}
	stays(t, "List", p, q.words())
}

// P14.1: words that tell an object that there isn't tell none, as the first one,
// and as a next one, whatever the last one is.
func TestNoLinks(t *testing.T) {
	for _, w := range noLinks {
		p := queues{7: nil}.words()
		p[at(7, f2)], p[at(7, f3)] = w, w
		before := slices.Clone(p)
		has(t, "no first", p, 7)
		pops(t, "no first", p, 7, -1)
		for _, thread := range append(upTo(0, allObjs), noObjs...) {
			removes(t, "no first", p, 7, thread, false)
		}
		stays(t, "no first", p, before)
		tells(t, "no first", Push(p, 7, 0), nil)
		stays(t, "no first", p, queues{7: {0}}.words())

		for _, x := range []struct {
			call func(v view.View)
			want []int
			last uint64 // F2 of the last one
		}{
			{func(v view.View) { pops(t, "no next", v, 7, 5) }, []int{3, 9}, w},
			{func(v view.View) { removes(t, "no next", v, 7, 5, true) }, []int{3, 9}, w},
			{func(v view.View) { removes(t, "no next", v, 7, 3, true) }, []int{5, 9}, w},
			{func(v view.View) { removes(t, "no next", v, 7, 9, true) }, []int{5, 3}, 0},
			{func(v view.View) { tells(t, "no next", Push(v, 7, 1), nil) }, []int{5, 3, 9, 1}, 0},
			{func(v view.View) { tells(t, "no next", Push(v, 7, 9), nil) }, []int{5, 3, 9}, 0},
		} {
			p = queues{7: {5, 3, 9}}.words()
			p[at(9, f2)] = w
			has(t, "no next", p, 7, 5, 3, 9)
			x.call(p)
			want := queues{7: x.want}.words()
			want[at(x.want[len(x.want)-1], f2)] = x.last
			stays(t, "no next", p, want)
			has(t, "no next", p, 7, x.want...)
		}

		p = queues{7: {5}}.words()
		p[at(5, f2)] = w
		pops(t, "the only one", p, 7, 5)
		stays(t, "the only one", p, queues{7: nil}.words())
	}
}

// P14.1: a first one without a last one, and a last one that isn't it: the
// threads are those from the first one on.
func TestOtherLast(t *testing.T) {
	for _, w := range append([]uint64{1, 4, 6, 8, 10, 32}, noLinks...) {
		for _, l := range [][]int{{5}, {5, 3}, {5, 3, 9}} {
			p := queues{7: l}.words()
			p[at(7, f3)] = w
			has(t, "another last one", p, 7, l...)
			tells(t, "another last one", Push(p, 7, 1), nil)
			stays(t, "another last one", p, queues{7: append(slices.Clone(l), 1)}.words())

			p[at(7, f3)] = w
			removes(t, "another last one", p, 7, 1, true)
			stays(t, "another last one", p, queues{7: l}.words())
			p[at(7, f3)] = w
			for _, thread := range l {
				pops(t, "another last one", p, 7, thread)
			}
			pops(t, "another last one", p, 7, -1)
			stays(t, "another last one", p, queues{7: nil}.words())
		}
	}
}

// P14.1: a last one without a first one: there is none.
func TestLastAlone(t *testing.T) {
	for _, last := range upTo(0, allObjs) {
		p := queues{7: nil}.words()
		p[at(7, f3)] = uint64(last + 1)
		before := slices.Clone(p)
		has(t, "the last one alone", p, 7)
		pops(t, "the last one alone", p, 7, -1)
		removes(t, "the last one alone", p, 7, last, false)
		stays(t, "the last one alone", p, before)
		tells(t, "the last one alone", Push(p, 7, 9), nil)
		has(t, "the last one alone", p, 7, 9)
		stays(t, "the last one alone", p, queues{7: {9}}.words())
	}
}

// P14.1: none but the object's F2 and F3, and the F2 of threads, is read: whatever
// the kinds, and states, all goes alike.
func TestWhateverElse(t *testing.T) {
	for _, w := range []uint64{0, 1, 5, 6, 32, 33, 1 << 62, math.MaxUint64} {
		p := queues{7: {5, 3}}.words()
		want := queues{7: {3, 9, 1}}.words()
		for i := range p {
			if is := i - objsAt; is < 0 || is >= objWords*allObjs || is%objWords != f2 && i != at(7, f3) {
				p[i], want[i] = w, w
			}
		}
		tells(t, "whatever else", Push(p, 7, 9), nil)
		pops(t, "whatever else", p, 7, 5)
		tells(t, "whatever else", Push(p, 7, 4), nil)
		tells(t, "whatever else", Push(p, 7, 1), nil)
		removes(t, "whatever else", p, 7, 4, true)
		has(t, "whatever else", p, 7, 3, 9, 1)
		stays(t, "whatever else", p, want)
	}
}
