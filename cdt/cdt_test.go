package cdt

import (
	"errors"
	"math"
	"slices"
	"testing"

	"padstone/api"
	"padstone/view"
)

// Words of slots, as layer 9's chapter counts them: five a slot.
const (
	wordAt   = 0
	parentAt = 1
	firstAt  = 2
	nextAt   = 3
	prevAt   = 4
	allWords = 738
)

// noSlots are numbers that no slot has. Five times some of them wraps round, to
// a word that is there.
var noSlots = []int{-1, -2, -5, -96, -1 << 32, -1 << 61, math.MinInt + 1, math.MinInt,
	96, 97, 100, 480, 737, 1 << 32, 1<<32 + 1, 1 << 62, 3689348814741910323, 3689348814741910324,
	math.MaxInt - 1, math.MaxInt}

// noLinks are words that tell no slot; cut off, or as signed numbers, some would.
var noLinks = []uint64{0, 97, 98, 100, 480, 1 << 8, 1<<8 + 1, 1 << 16, 1<<16 + 1, 1 << 31, 1 << 32, 1<<32 + 1,
	1<<62 - 1, 1 << 62, 1<<62 + 1, 1<<63 - 1, 1 << 63, 1<<63 + 1, math.MaxUint64 - 1, math.MaxUint64}

// filled are words without links, each of the others unlike all of them: slots'
// Words, and those behind all slots.
func filled() view.Plain {
	p := make(view.Plain, allWords)
	for i := range p {
		if i >= 480 || i%5 == wordAt {
			p[i] = uint64(1000 + i)
		}
	}
	return p
}

// row is a slot's links, as words: Parent, First, Next, Prev.
type row struct{ i, parent, first, next, prev int }

// with are words that have those rows, and no other links.
func with(rows ...row) view.Plain {
	p := filled()
	for _, r := range rows {
		for k, n := range []int{r.parent, r.first, r.next, r.prev} {
			p[5*r.i+parentAt+k] = uint64(n)
		}
	}
	return p
}

// linked are words in which each list's first slot has the others as its kids,
// in that order.
func linked(lists ...[]int) view.Plain {
	p := filled()
	for _, l := range lists {
		for k, i := range l[1:] {
			p[5*i+parentAt] = uint64(l[0] + 1)
			if k == 0 {
				p[5*l[0]+firstAt] = uint64(i + 1)
				continue
			}
			p[5*i+prevAt] = uint64(l[k] + 1)
			p[5*l[k]+nextAt] = uint64(i + 1)
		}
	}
	return p
}

// upTo are the numbers 0, 1, .. of n slots.
func upTo(n int) []int {
	l := make([]int, n)
	for i := range l {
		l[i] = i
	}
	return l
}

// turned is a list the other way round.
func turned(l []int) []int {
	l = slices.Clone(l)
	slices.Reverse(l)
	return l
}

// stays holds that words are just those.
func stays(t *testing.T, what string, p, want view.Plain) {
	t.Helper()
	if !slices.Equal(p, want) {
		t.Errorf("%s: words unlike those that are to be: %v, of %v", what, view.Changed(want, p), view.Changed(p, want))
	}
}

// tells holds a call's error, itself, against what it is to be.
func tells(t *testing.T, what string, err, want error) {
	t.Helper()
	if !errors.Is(err, want) || want == nil && err != nil {
		t.Errorf("%s: %v, want %v", what, err, want)
	}
	if c, ok := err.(api.Code); err != nil && (!ok || c != want) {
		t.Errorf("%s: %v isn't the Code itself", what, err)
	}
}

// has holds a slot's kids against what they are to be.
func has(t *testing.T, what string, v view.View, i int, want ...int) {
	t.Helper()
	if l := Kids(v, i); !slices.Equal(l, want) {
		t.Errorf("%s: kids of %d: %v, want %v", what, i, l, want)
	}
}

// isOf holds a slot's Parent, and its Leaf, against what they are to be.
func isOf(t *testing.T, what string, v view.View, i, parent, leaf int) {
	t.Helper()
	if n := Parent(v, i); n != parent {
		t.Errorf("%s: parent of %d: %d, want %d", what, i, n, parent)
	}
	if n := Leaf(v, i); n != leaf {
		t.Errorf("%s: leaf of %d: %d, want %d", what, i, n, leaf)
	}
}

// The chapter's example.
func TestExample(t *testing.T) {
	p := make(view.Plain, allWords)
	tells(t, "the first", Link(p, 1, 0), nil)
	tells(t, "the second", Link(p, 2, 0), nil)
	has(t, "1 and 2 linked below 0", p, 0, 2, 1)
}

// P10.1: slots are linked, each word by word.
func TestLink(t *testing.T) {
	p := filled()
	tells(t, "the first kid", Link(p, 5, 3), nil)
	stays(t, "the first kid", p, with(row{3, 0, 6, 0, 0}, row{5, 4, 0, 0, 0}))
	tells(t, "a second one", Link(p, 9, 3), nil)
	stays(t, "a second one", p, with(row{3, 0, 10, 0, 0}, row{9, 4, 0, 6, 0}, row{5, 4, 0, 0, 10}))
	tells(t, "a third one", Link(p, 1, 3), nil)
	stays(t, "a third one", p, with(row{3, 0, 2, 0, 0}, row{1, 4, 0, 10, 0}, row{9, 4, 0, 6, 2}, row{5, 4, 0, 0, 10}))
	tells(t, "a kid's kid", Link(p, 7, 9), nil)
	stays(t, "a kid's kid", p, with(row{3, 0, 2, 0, 0}, row{1, 4, 0, 10, 0}, row{9, 4, 8, 6, 2}, row{5, 4, 0, 0, 10},
		row{7, 10, 0, 0, 0}))
	tells(t, "a slot that has kids", Link(p, 3, 0), nil)
	stays(t, "a slot that has kids", p, with(row{0, 0, 4, 0, 0}, row{3, 1, 2, 0, 0}, row{1, 4, 0, 10, 0},
		row{9, 4, 8, 6, 2}, row{5, 4, 0, 0, 10}, row{7, 10, 0, 0, 0}))
}

// P10.1: the first slot and the last one, of either argument.
func TestLinkEnds(t *testing.T) {
	for _, x := range [][2]int{{0, 95}, {95, 0}, {0, 1}, {1, 0}, {94, 95}, {95, 94}} {
		p := filled()
		tells(t, "two of the ends", Link(p, x[0], x[1]), nil)
		stays(t, "two of the ends", p, linked([]int{x[1], x[0]}))
		isOf(t, "the kid", p, x[0], x[1], x[0])
		isOf(t, "the parent", p, x[1], -1, x[0])
	}
}

// P10.1: what has a Parent isn't linked, nor a slot below itself.
func TestLinkState(t *testing.T) {
	p := linked([]int{3, 5, 9}, []int{9, 7})
	before := slices.Clone(p)
	for _, x := range []struct {
		what        string
		kid, parent int
	}{
		{"again", 5, 3},
		{"the last of the kids, again", 9, 3},
		{"below another one", 5, 0},
		{"below another kid", 5, 9},
		{"below its own kid", 9, 7},
		{"a kid's kid", 7, 3},
		{"below itself, with kids", 3, 3},
		{"below itself, with a Parent", 5, 5},
		{"below itself", 0, 0},
		{"the last one below itself", 95, 95},
	} {
		tells(t, x.what, Link(p, x.kid, x.parent), api.ErrState)
		stays(t, x.what, p, before)
	}
}

// P10.1: nothing is told of what is below a slot: one without a Parent is
// linked below its own kid's kid.
func TestLinkBelowItsOwn(t *testing.T) {
	p := linked([]int{3, 5}, []int{5, 7})
	tells(t, "below its kid's kid", Link(p, 3, 7), nil)
	has(t, "of a circle", p, 7, 3)
	isOf(t, "in a circle", p, 3, 7, 3)
}

// twice holds that a call of two slots tells ErrNone, if there isn't one of them,
// and changes no word.
func twice(t *testing.T, what string, call func(v view.View, a, b int) error) {
	t.Helper()
	long := append(linked([]int{3, 5, 9}, []int{0, 95}), filled()...)
	p := slices.Clone(long)
	for _, no := range noSlots {
		for _, i := range append([]int{0, 1, 3, 5, 9, 94, 95}, noSlots...) {
			tells(t, what+", no first", call(p, no, i), api.ErrNone)
			tells(t, what+", no second", call(p, i, no), api.ErrNone)
		}
	}
	stays(t, what, p, long)
}

// P10.1, R1, R3, P1 of the whole: what isn't there isn't linked, ahead of what has a Parent.
func TestLinkNone(t *testing.T) { twice(t, "Link", Link) }

// P10.1, R1, R3, P1 of the whole: nor is it replaced, or put in a place, ahead
// of what has a Parent, or kids, or is the other one.
func TestReplaceNone(t *testing.T) { twice(t, "Replace", Replace) }

// P10.1, R3, P1 of the whole: nor is it unlinked.
func TestUnlinkNone(t *testing.T) {
	long := append(linked([]int{3, 5, 9}, []int{0, 95}), filled()...)
	p := slices.Clone(long)
	for _, no := range noSlots {
		tells(t, "Unlink", Unlink(p, no), api.ErrNone)
	}
	stays(t, "Unlink", p, long)
}

// P10.1: slots are unlinked, each word by word; the other kids are as they were.
func TestUnlink(t *testing.T) {
	for _, x := range []struct {
		what string
		kid  int
		want []int
	}{
		{"the first", 5, []int{3, 9, 1, 7}},
		{"the second", 9, []int{3, 5, 1, 7}},
		{"the last but one", 1, []int{3, 5, 9, 7}},
		{"the last", 7, []int{3, 5, 9, 1}},
		{"one that has no Parent, and kids", 3, []int{3, 5, 9, 1, 7}},
		{"one that has nothing", 0, []int{3, 5, 9, 1, 7}},
	} {
		p := linked([]int{3, 5, 9, 1, 7})
		tells(t, x.what, Unlink(p, x.kid), nil)
		stays(t, x.what, p, linked(x.want))
		tells(t, x.what+", again", Unlink(p, x.kid), nil)
		stays(t, x.what+", again", p, linked(x.want))
	}
	for _, x := range [][2]int{{0, 1}, {1, 0}, {0, 95}, {95, 0}, {94, 95}} {
		p := linked([]int{x[0], x[1]})
		tells(t, "the only one", Unlink(p, x[1]), nil)
		stays(t, "the only one", p, filled())
	}
}

// P10.1: what is unlinked keeps its own kids.
func TestUnlinkWithKids(t *testing.T) {
	for _, x := range [][]int{{3, 5, 9, 1}, {3, 9, 5, 1}, {3, 9, 1, 5}, {3, 5}} {
		p := linked(x, []int{5, 7, 2}, []int{0, 3})
		tells(t, "one that has kids", Unlink(p, 5), nil)
		rest := slices.DeleteFunc(slices.Clone(x), func(i int) bool { return i == 5 })
		stays(t, "one that has kids", p, linked(rest, []int{5, 7, 2}, []int{0, 3}))
		isOf(t, "one that has kids", p, 5, -1, 7)
	}
}

// P10.1: a slot that has no Parent is left as it is, whatever its words are.
func TestUnlinkNothing(t *testing.T) {
	for _, w := range noLinks {
		p := linked([]int{3, 5, 9}, []int{7, 2})
		p[5*7+parentAt], p[5*7+nextAt], p[5*7+prevAt] = w, 6, 10
		before := slices.Clone(p)
		tells(t, "without a Parent", Unlink(p, 7), nil)
		stays(t, "without a Parent", p, before)
	}
}

// P10.1: a slot among another one's kids, or none of them, is replaced, with
// all its own kids, each word by word.
func TestReplace(t *testing.T) {
	kids := [][]int{{}, {6}, {6, 8}, {8, 6, 95}}
	for _, of := range [][]int{{3, 5}, {3, 5, 9}, {3, 9, 5}, {3, 9, 5, 1}, {3, 9, 1, 5}, {3, 5, 9, 1}, {3, 1, 9, 5, 0}, {3}} {
		for _, l := range kids {
			for _, to := range []int{4, 2, 94} {
				p := linked(of, append([]int{5}, l...), []int{7, 3}, []int{6, 10, 11}, []int{9, 12})
				tells(t, "one of the kids", Replace(p, 5, to), nil)
				then := slices.Clone(of)
				if k := slices.Index(of, 5); k > 0 {
					then[k] = to
				}
				stays(t, "one of the kids", p, linked(then, append([]int{to}, l...), []int{7, 3}, []int{6, 10, 11}, []int{9, 12}))
				has(t, "what was replaced", p, 5)
				isOf(t, "what was replaced", p, 5, -1, 5)
				has(t, "what stands there", p, to, l...)
			}
		}
	}
}

// P10.1: the same, written out as words.
func TestReplaceWords(t *testing.T) {
	p := with(row{0, 0, 2, 0, 0}, row{1, 1, 0, 3, 0}, row{2, 1, 5, 4, 2}, row{3, 1, 0, 0, 3},
		row{4, 3, 0, 6, 0}, row{5, 3, 0, 0, 5})
	tells(t, "in the middle, two kids", Replace(p, 2, 9), nil)
	stays(t, "in the middle, two kids", p, with(row{0, 0, 2, 0, 0}, row{1, 1, 0, 10, 0}, row{9, 1, 5, 4, 2},
		row{3, 1, 0, 0, 10}, row{4, 10, 0, 6, 0}, row{5, 10, 0, 0, 5}))
	tells(t, "the first", Replace(p, 1, 2), nil)
	stays(t, "the first", p, with(row{0, 0, 3, 0, 0}, row{2, 1, 0, 10, 0}, row{9, 1, 5, 4, 3},
		row{3, 1, 0, 0, 10}, row{4, 10, 0, 6, 0}, row{5, 10, 0, 0, 5}))
	tells(t, "what has no Parent", Replace(p, 0, 95), nil)
	stays(t, "what has no Parent", p, with(row{95, 0, 3, 0, 0}, row{2, 96, 0, 10, 0}, row{9, 96, 5, 4, 3},
		row{3, 96, 0, 0, 10}, row{4, 10, 0, 6, 0}, row{5, 10, 0, 0, 5}))
	tells(t, "what has nothing", Replace(p, 0, 1), nil)
	stays(t, "what has nothing", p, with(row{95, 0, 3, 0, 0}, row{2, 96, 0, 10, 0}, row{9, 96, 5, 4, 3},
		row{3, 96, 0, 0, 10}, row{4, 10, 0, 6, 0}, row{5, 10, 0, 0, 5}))
}

// P10.1, R3: what has a Parent, or kids, or is the slot, is put in no place.
func TestReplaceState(t *testing.T) {
	p := linked([]int{3, 5, 9}, []int{5, 7}, []int{0, 1}, []int{1, 2})
	before := slices.Clone(p)
	for _, x := range []struct {
		what     string
		from, to int
	}{
		{"by one that has a Parent", 3, 2},
		{"by its own kid", 3, 9},
		{"by its own kid, that has kids", 3, 5},
		{"by its kid's kid", 3, 7},
		{"by the one beside it", 5, 9},
		{"by its Parent", 9, 3},
		{"by one that has kids", 3, 0},
		{"by one that has both", 3, 1},
		{"by one that has kids, of one that has nothing", 20, 0},
		{"by one that has a Parent, of one that has nothing", 20, 2},
		{"by itself", 5, 5},
		{"by itself, without a kid", 9, 9},
		{"by itself, without a Parent", 3, 3},
		{"by itself, that has nothing", 20, 20},
		{"the first slot by itself", 0, 0},
		{"the last slot by itself", 95, 95},
	} {
		tells(t, x.what, Replace(p, x.from, x.to), api.ErrState)
		stays(t, x.what, p, before)
	}
}

// P10.2: Parent, of what has one, has none, and isn't there.
func TestParent(t *testing.T) {
	p := linked([]int{0, 5, 95}, []int{95, 7}, []int{5, 94})
	for i, want := range map[int]int{0: -1, 5: 0, 95: 0, 7: 95, 94: 5, 1: -1, 93: -1} {
		if n := Parent(p, i); n != want {
			t.Errorf("of %d: %d, want %d", i, n, want)
		}
	}
	for n := range 96 {
		p := filled()
		p[5*40+parentAt] = uint64(n + 1)
		if got := Parent(p, 40); got != n {
			t.Errorf("of word %d: %d", n+1, got)
		}
	}
}

// P10.2: Kids, in order; none of what has none.
func TestKids(t *testing.T) {
	p := linked([]int{0, 5, 95, 2}, []int{95, 7}, []int{2, 0})
	has(t, "three", p, 0, 5, 95, 2)
	has(t, "one", p, 95, 7)
	has(t, "one", p, 2, 0)
	has(t, "none", p, 5)
	has(t, "none", p, 7)
	has(t, "none of the last but one", p, 94)
	stays(t, "Kids", p, linked([]int{0, 5, 95, 2}, []int{95, 7}, []int{2, 0}))
}

// P10.2: Leaf, down from any level, by the first kid each time.
func TestLeaf(t *testing.T) {
	p := linked([]int{0, 5, 95}, []int{5, 6, 7}, []int{7, 8}, []int{6, 9, 10}, []int{95, 1}, []int{10, 11})
	for i, want := range map[int]int{0: 9, 5: 9, 6: 9, 9: 9, 7: 8, 8: 8, 95: 1, 1: 1, 10: 11, 11: 11, 3: 3, 94: 94} {
		if n := Leaf(p, i); n != want {
			t.Errorf("of %d: %d, want %d", i, n, want)
		}
	}
	stays(t, "Leaf", p, linked([]int{0, 5, 95}, []int{5, 6, 7}, []int{7, 8}, []int{6, 9, 10}, []int{95, 1}, []int{10, 11}))
}

// P10.2, P1 of the whole: of no such slot there is nothing, whatever lies where
// its words would be.
func TestOfNoSlot(t *testing.T) {
	p := make(view.Plain, 2000)
	for i := range p {
		p[i] = 3
	}
	for _, no := range noSlots {
		isOf(t, "no slot", p, no, -1, -1)
		has(t, "no slot", p, no)
	}
}

// P10.2: what words tell a slot that there isn't is none, of each link.
func TestNoLinks(t *testing.T) {
	for _, w := range noLinks {
		for _, i := range []int{0, 7, 95} {
			p := filled()
			for field := parentAt; field <= prevAt; field++ {
				p[5*i+field] = w
			}
			isOf(t, "no links", p, i, -1, i)
			has(t, "no links", p, i)

			tells(t, "a kid below it", Link(p, 50, i), nil)
			isOf(t, "a kid below it", p, i, -1, 50)
			has(t, "a kid below it", p, i, 50)
			tells(t, "linked itself", Link(p, i, 51), nil)
			isOf(t, "linked itself", p, i, 51, 50)
			has(t, "linked itself", p, 51, i)
			stays(t, "linked", p, linked([]int{51, i}, []int{i, 50}))

			p = linked([]int{51, 50}, []int{50, 52})
			for field := parentAt; field <= prevAt; field++ {
				p[5*i+field] = w
			}
			tells(t, "in a place", Replace(p, 50, i), nil)
			stays(t, "in a place", p, linked([]int{51, i}, []int{i, 52}))
		}
		p := linked([]int{3, 5, 9})
		p[5*9+nextAt] = w
		has(t, "behind the last", p, 3, 5, 9)
	}
}

// P10.1: where the first kid's Prev, and the last one's Next, tell no slot, all
// goes as if they were none.
func TestNoLinksBeside(t *testing.T) {
	for _, w := range noLinks {
		for _, x := range []struct {
			kid  int
			want []int
		}{{5, []int{3, 9, 1}}, {9, []int{3, 5, 1}}, {1, []int{3, 5, 9}}} {
			p := linked([]int{3, 5, 9, 1})
			p[5*5+prevAt], p[5*1+nextAt] = w, w
			tells(t, "unlinked", Unlink(p, x.kid), nil)
			has(t, "unlinked", p, 3, x.want[1:]...)
			isOf(t, "unlinked", p, x.kid, -1, x.kid)
			p = linked([]int{3, 5, 9, 1})
			p[5*5+prevAt], p[5*1+nextAt] = w, w
			tells(t, "replaced", Replace(p, x.kid, 20), nil)
			then := []int{5, 9, 1}
			then[slices.Index(then, x.kid)] = 20
			has(t, "replaced", p, 3, then...)
			isOf(t, "replaced", p, 20, 3, 20)
		}
	}
}

// P10.2: what Kids answers is new memory.
func TestKidsAreNew(t *testing.T) {
	p := linked([]int{3, 5, 9, 1})
	a, b := Kids(p, 3), Kids(p, 3)
	a[0], a[1], a[2] = 77, 78, 79
	_ = append(a[:1], 80, 81)
	has(t, "behind a change of what was told", p, 3, 5, 9, 1)
	if !slices.Equal(b, []int{5, 9, 1}) {
		t.Error("told earlier:", b)
	}
	tells(t, "Unlink", Unlink(p, 5), nil)
	if !slices.Equal(b, []int{5, 9, 1}) {
		t.Error("told ahead of a change:", b)
	}
	stays(t, "words", p, linked([]int{3, 9, 1}))
}

// P10.1 to P10.3: lists of 95 kids.
func TestLongLists(t *testing.T) {
	for _, parent := range []int{0, 40, 95} {
		others := slices.DeleteFunc(upTo(96), func(i int) bool { return i == parent })
		p := filled()
		for _, i := range others {
			tells(t, "of 95", Link(p, i, parent), nil)
		}
		kids := turned(others)
		stays(t, "of 95", p, linked(append([]int{parent}, kids...)))
		has(t, "of 95", p, parent, kids...)
		isOf(t, "of 95", p, parent, -1, kids[0])

		free := kids[30]
		tells(t, "one of 95", Unlink(p, free), nil)
		kids = slices.Delete(kids, 30, 31)
		has(t, "of 94", p, parent, kids...)
		tells(t, "replaced, of 94", Replace(p, parent, free), nil)
		stays(t, "replaced, of 94", p, linked(append([]int{free}, kids...)))
		for _, i := range others {
			tells(t, "all of 94", Unlink(p, i), nil)
		}
		stays(t, "all of 94", p, filled())
	}
}

// P10.1, P10.2: 96 slots, each below the one ahead.
func TestDeep(t *testing.T) {
	p := filled()
	for i := range 95 {
		tells(t, "deep", Link(p, i+1, i), nil)
	}
	for i := range 96 {
		isOf(t, "deep", p, i, i-1, 95)
	}
	tells(t, "in the middle", Unlink(p, 40), nil)
	isOf(t, "above", p, 0, -1, 39)
	isOf(t, "below", p, 40, -1, 95)
}

// P10.3: a slot that is linked and unlinked leaves all words as they were.
func TestLinkedAndUnlinked(t *testing.T) {
	lists := [][]int{{3, 5, 9, 1}, {9, 7, 0}, {7, 95}, {10, 11}}
	before := linked(lists...)
	for kid := range 96 {
		for parent := range 96 {
			p := slices.Clone(before)
			if Link(p, kid, parent) == nil {
				tells(t, "linked", Unlink(p, kid), nil)
			}
			stays(t, "linked and unlinked", p, before)
		}
	}
}

// P10.3: what is replaced, and back, leaves all words as they were.
func TestThereAndBack(t *testing.T) {
	before := linked([]int{3, 5, 9, 1}, []int{9, 7, 0}, []int{7, 95}, []int{10, 11})
	for from := range 96 {
		for to := range 96 {
			p := slices.Clone(before)
			if Replace(p, from, to) == nil {
				tells(t, "back", Replace(p, to, from), nil)
			}
			stays(t, "there and back", p, before)
		}
	}
}
