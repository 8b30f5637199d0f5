package cdt

import (
	"math"
	"slices"
	"testing"

	"padstone/api"
	"padstone/stm"
	"padstone/tx"
	"padstone/view"
	"padstone/word"
)

// dice are numbers from a short rule: the same ones in each run.
type dice uint64

func (d *dice) roll(n int) int {
	*d = *d*6364136223846793005 + 1442695040888963407
	return int(uint64(*d) >> 33 % uint64(n))
}

// slot is a slot among the first n, or, now and then, what may be none.
func (d *dice) slot(n int) int {
	edges := []int{-1, 0, 95, 96, 97, 1 << 62, math.MaxInt, math.MinInt}
	if d.roll(40) == 0 {
		return edges[d.roll(len(edges))]
	}
	return d.roll(n)
}

// The chapter's words once more, with each slot's kids as a list of its own.

// model is what slots are to have.
type model [96][]int

// there tells whether there is such a slot.
func (m *model) there(i int) bool { return i >= 0 && i < 96 }

// parent is what has a slot among its kids.
func (m *model) parent(i int) int {
	return slices.IndexFunc(m[:], func(l []int) bool { return slices.Contains(l, i) })
}

// link is what Link is to do.
func (m *model) link(kid, parent int) error {
	switch {
	case !m.there(kid) || !m.there(parent):
		return api.ErrNone
	case kid == parent || m.parent(kid) >= 0:
		return api.ErrState
	}
	m[parent] = append([]int{kid}, m[parent]...)
	return nil
}

// unlink is what Unlink is to do.
func (m *model) unlink(kid int) error {
	if !m.there(kid) {
		return api.ErrNone
	}
	if p := m.parent(kid); p >= 0 {
		m[p] = slices.DeleteFunc(slices.Clone(m[p]), func(i int) bool { return i == kid })
	}
	return nil
}

// replace is what Replace is to do.
func (m *model) replace(from, to int) error {
	switch {
	case !m.there(from) || !m.there(to):
		return api.ErrNone
	case from == to || m.parent(to) >= 0 || len(m[to]) > 0:
		return api.ErrState
	}
	m[to], m[from] = m[from], nil
	if p := m.parent(from); p >= 0 {
		m[p] = slices.Clone(m[p])
		m[p][slices.Index(m[p], from)] = to
	}
	return nil
}

// leaf is the last of the first kids from a slot on. In a circle of slots the
// chapter's 96 times end it.
func (m *model) leaf(i int) int {
	for range 96 {
		if len(m[i]) == 0 {
			break
		}
		i = m[i][0]
	}
	return i
}

// words are those of it.
func (m *model) words() view.Plain {
	var lists [][]int
	for i, l := range m {
		lists = append(lists, append([]int{i}, l...))
	}
	return linked(lists...)
}

// agree holds all that is told of slots against the model.
func agree(t *testing.T, v view.View, m *model) {
	t.Helper()
	for i := range 96 {
		if l := Kids(v, i); !slices.Equal(l, m[i]) {
			t.Fatalf("kids of %d: %v, want %v", i, l, m[i])
		}
		if n := Parent(v, i); n != m.parent(i) {
			t.Fatalf("parent of %d: %d, want %d", i, n, m.parent(i))
		}
		if n := Leaf(v, i); n != m.leaf(i) {
			t.Fatalf("leaf of %d: %d, want %d", i, n, m.leaf(i))
		}
	}
}

// P10.1 to P10.3: many calls one behind the other, of few slots and of all.
func TestLaws(t *testing.T) {
	var d dice
	for round := range 60 {
		slots := []int{4, 9, 30, 96}[round%4]
		p, m := filled(), model{}
		for range 400 {
			a, b := d.slot(slots), d.slot(slots)
			switch d.roll(4) {
			case 0, 1:
				tells(t, "Link", Link(p, a, b), m.link(a, b))
			case 2:
				tells(t, "Unlink", Unlink(p, a), m.unlink(a))
			case 3:
				tells(t, "Replace", Replace(p, a, b), m.replace(a, b))
			}
			if !slices.Equal(p, m.words()) {
				t.Fatalf("round %d, of %d, %d: %v", round, a, b, view.Changed(m.words(), p))
			}
		}
		agree(t, p, &m)
	}
}

// link is a word of links, of few slots, or of none.
func (d *dice) link(slots int) uint64 {
	if d.roll(8) == 0 {
		return noLinks[d.roll(len(noLinks))]
	}
	return uint64(d.roll(slots + 1))
}

// littered are words whose links are any.
func (d *dice) littered(slots int) view.Plain {
	p := filled()
	for i := range slots {
		for field := parentAt; field <= prevAt; field++ {
			p[5*i+field] = d.link(slots)
		}
	}
	return p
}

// tellsOf is the slot that a word tells, or -1.
func tellsOf(w uint64) int {
	if w < 1 || w > 96 {
		return -1
	}
	return int(w - 1)
}

// walked are a slot's kids, word by word.
func walked(p view.Plain, i int) []int {
	var l []int
	for k := tellsOf(p[5*i+firstAt]); k >= 0 && len(l) < 96; k = tellsOf(p[5*k+nextAt]) {
		l = append(l, k)
	}
	return l
}

// reads holds what is told of words that no call left.
func reads(t *testing.T, p view.Plain) {
	t.Helper()
	before := slices.Clone(p)
	for i := range 96 {
		if n := Parent(p, i); n != tellsOf(p[5*i+parentAt]) {
			t.Fatalf("parent of %d: %d, of word %d", i, n, p[5*i+parentAt])
		}
		if l := Kids(p, i); !slices.Equal(l, walked(p, i)) {
			t.Fatalf("kids of %d: %v, want %v", i, l, walked(p, i))
		}
		leaf := i
		for n := 0; n < 96 && tellsOf(p[5*leaf+firstAt]) >= 0; n++ {
			leaf = tellsOf(p[5*leaf+firstAt])
		}
		if n := Leaf(p, i); n != leaf {
			t.Fatalf("leaf of %d: %d, want %d", i, n, leaf)
		}
	}
	stays(t, "what only reads", p, before)
}

// P10.2, P1 of the whole: whatever the words, Parent, Kids and Leaf tell what
// they tell, 96 of them at most.
func TestLitteredReads(t *testing.T) {
	var d dice
	for round := range 200 {
		reads(t, d.littered([]int{1, 2, 3, 6, 20, 96}[round%6]))
	}
}

// onlyLinks holds that no words but slots' links were changed.
func onlyLinks(t *testing.T, p view.Plain) {
	t.Helper()
	for _, c := range view.Changed(filled(), p) {
		if c.At >= 480 || c.At%5 == wordAt {
			t.Fatalf("word %d, that is no link, is changed: %d", c.At, c.Val)
		}
	}
}

// P10.1, R3, P1 of the whole: whatever the words, it hangs on Parents, and kids,
// alone whether there is an error, and what was asked for is so then.
func TestLitteredChanges(t *testing.T) {
	var d dice
	for round := range 20000 {
		slots := []int{2, 3, 6, 20, 96}[round%5]
		p := d.littered(slots)
		before := slices.Clone(p)
		a, b := d.roll(slots), d.roll(slots)
		if d.roll(2) == 0 {
			p[5*b+parentAt], p[5*b+firstAt] = d.link(0), d.link(0)
			before = slices.Clone(p)
		}
		switch d.roll(3) {
		case 0:
			litteredLink(t, p, before, b, a)
		case 1:
			litteredUnlink(t, p, before, a)
		case 2:
			litteredReplace(t, p, before, a, b)
		}
		onlyLinks(t, p)
	}
}

// litteredLink links a slot, in any words.
func litteredLink(t *testing.T, p, before view.Plain, kid, parent int) {
	t.Helper()
	if kid == parent || tellsOf(p[5*kid+parentAt]) >= 0 {
		tells(t, "Link", Link(p, kid, parent), api.ErrState)
		stays(t, "Link", p, before)
		return
	}
	tells(t, "Link", Link(p, kid, parent), nil)
	l, old := Kids(p, parent), walked(before, parent)
	if Parent(p, kid) != parent || len(l) == 0 || l[0] != kid || p[5*kid+prevAt] != 0 {
		t.Fatalf("%d linked below %d: kids %v", kid, parent, l)
	}
	if len(old) < 96 && !slices.Contains(old, kid) && !slices.Equal(l[1:], old) {
		t.Fatalf("%d linked below %d: kids %v behind it, want %v", kid, parent, l[1:], old)
	}
}

// litteredUnlink unlinks a slot, in any words.
func litteredUnlink(t *testing.T, p, before view.Plain, kid int) {
	t.Helper()
	tells(t, "Unlink", Unlink(p, kid), nil)
	if tellsOf(before[5*kid+parentAt]) < 0 {
		stays(t, "Unlink, without a Parent", p, before)
		return
	}
	if p[5*kid+parentAt] != 0 || p[5*kid+nextAt] != 0 || p[5*kid+prevAt] != 0 {
		t.Fatalf("%d unlinked: words %v", kid, p[5*kid:5*kid+5])
	}
}

// litteredReplace replaces a slot, in any words.
func litteredReplace(t *testing.T, p, before view.Plain, from, to int) {
	t.Helper()
	if from == to || tellsOf(p[5*to+parentAt]) >= 0 || tellsOf(p[5*to+firstAt]) >= 0 {
		tells(t, "Replace", Replace(p, from, to), api.ErrState)
		stays(t, "Replace", p, before)
		return
	}
	tells(t, "Replace", Replace(p, from, to), nil)
	if !slices.Equal(p[5*from+1:5*from+5], view.Plain{0, 0, 0, 0}) {
		t.Fatalf("%d replaced by %d: it has words %v", from, to, p[5*from:5*from+5])
	}
	if Parent(p, to) != tellsOf(before[5*from+parentAt]) || tellsOf(p[5*to+firstAt]) != tellsOf(before[5*from+firstAt]) {
		t.Fatalf("%d replaced by %d: that has words %v, of %v", from, to, p[5*to:5*to+5], before[5*from:5*from+5])
	}
	for _, k := range walked(before, from) {
		if k != from && k != to && Parent(p, k) != to {
			t.Fatalf("%d replaced by %d: kid %d has Parent %d", from, to, k, Parent(p, k))
		}
	}
}

// P10.2: lists that run in a circle, and how many of them are told.
func TestCircles(t *testing.T) {
	for _, x := range []struct {
		what string
		p    view.Plain
		leaf int
		kids []int // what comes again and again
	}{
		{"through itself", with(row{0, 1, 1, 1, 1}), 0, []int{0}},
		{"a kid through itself", with(row{0, 0, 2, 0, 0}, row{1, 1, 0, 2, 2}), 1, []int{1}},
		{"two kids", with(row{0, 0, 2, 0, 0}, row{1, 1, 0, 3, 3}, row{2, 1, 0, 2, 2}), 1, []int{1, 2}},
		{"through the slot", with(row{0, 0, 6, 6, 0}, row{5, 1, 0, 1, 0}), 5, []int{5, 0}},
		{"below each other", with(row{0, 6, 6, 6, 0}, row{5, 1, 1, 6, 0}), 0, []int{5}},
		{"below each other, three", with(row{0, 6, 2, 0, 0}, row{1, 1, 6, 2, 0}, row{5, 2, 1, 0, 0}), 0, []int{1}},
	} {
		reads(t, x.p)
		if n := Leaf(x.p, 0); n != x.leaf {
			t.Errorf("%s: leaf %d, want %d", x.what, n, x.leaf)
		}
		l := Kids(x.p, 0)
		if len(l) != 96 {
			t.Errorf("%s: %d kids", x.what, len(l))
		}
		for n, k := range l {
			if k != x.kids[n%len(x.kids)] {
				t.Errorf("%s: kid number %d is %d", x.what, n, k)
			}
		}
	}
}

// P10.2: of a circle of five, and one of seven, Leaf tells what is there 96 times on.
func TestLeafOfCircles(t *testing.T) {
	for _, many := range []int{2, 5, 7, 90, 96} {
		p := filled()
		for i := range many {
			p[5*i+firstAt] = uint64((i+1)%many + 1)
		}
		for i := range many {
			if n := Leaf(p, i); n != (i+96)%many {
				t.Errorf("of %d, in a circle of %d: %d", i, many, n)
			}
		}
	}
}

// P10.2: a First whose slot has another Parent, or none, tells it nevertheless.
func TestOtherParents(t *testing.T) {
	p := with(row{0, 0, 6, 0, 0}, row{5, 4, 0, 8, 0}, row{3, 0, 6, 0, 0}, row{7, 0, 0, 0, 6})
	for _, i := range []int{0, 3} {
		has(t, "of another one", p, i, 5, 7)
		isOf(t, "of another one", p, i, -1, 5)
	}
	isOf(t, "the kid", p, 5, 3, 5)
	isOf(t, "the kid without a Parent", p, 7, -1, 7)
}

// P10.1: a slot without a Parent stands nowhere, whatever its Next and Prev
// tell: what it is replaced by doesn't either, and the slots told stay as they are.
func TestReplaceOfNowhere(t *testing.T) {
	lists := [][]int{{3, 5, 9, 1}, {7, 2, 8}}
	for _, w := range noLinks {
		p := linked(lists...)
		p[5*7+parentAt], p[5*7+nextAt], p[5*7+prevAt] = w, 9+1, 5+1
		tells(t, "one that stands nowhere", Replace(p, 7, 20), nil)
		stays(t, "one that stands nowhere", p, linked(lists[0], []int{20, 2, 8}))
	}
}

// P10.1, P10.2, P1 of the whole: views that have fewer words than there are read
// 0 there, and nothing is written.
func TestShortViews(t *testing.T) {
	var d dice
	for _, words := range []int{0, 1, 2, 3, 5, 7, 8, 20, 24, 25, 26, 49, 100, 475, 476, 479, 480, 737} {
		for range 200 {
			all := d.littered(96)
			clear(all[words:])
			p := slices.Clone(all[:words])
			for range 5 {
				a, b := d.slot(96), d.slot(10)
				switch d.roll(3) {
				case 0:
					Link(p, a, b)
				case 1:
					Unlink(p, a)
				case 2:
					Replace(p, a, b)
				}
				for i := -1; i <= 96; i++ {
					if len(Kids(p, i)) > 96 || Leaf(p, i) > 95 || Leaf(p, i) < -1 || Parent(p, i) > 95 || Parent(p, i) < -1 {
						t.Fatalf("of %d words, slot %d: %d, %d, %v", words, i, Parent(p, i), Leaf(p, i), Kids(p, i))
					}
				}
			}
		}
	}
	var p view.Plain
	tells(t, "Link, of no words", Link(p, 1, 0), nil)
	tells(t, "Link below itself, of no words", Link(p, 1, 1), api.ErrState)
	tells(t, "Link of none, of no words", Link(p, 96, 0), api.ErrNone)
	tells(t, "Unlink, of no words", Unlink(p, 95), nil)
	tells(t, "Unlink of none, of no words", Unlink(p, -1), api.ErrNone)
	tells(t, "Replace, of no words", Replace(p, 0, 1), nil)
	tells(t, "Replace of none, of no words", Replace(p, 0, 96), api.ErrNone)
	isOf(t, "of no words", p, 5, -1, 5)
	has(t, "of no words", p, 5)
}

// P10.1, P10.2: of a view of the first 50 slots alone the slots behind have no links.
func TestOfHalf(t *testing.T) {
	p := linked([]int{3, 60, 5}, []int{60, 8}, []int{8, 9})[:250]
	has(t, "cut off", p, 3, 60)
	has(t, "behind the end", p, 60)
	isOf(t, "behind the end", p, 60, -1, 60)
	isOf(t, "a Parent behind the end", p, 8, 60, 9)
	tells(t, "a kid behind the end", Link(p, 70, 3), nil)
	has(t, "a kid behind the end", p, 3, 70)
}

// done is what a function does to words, as a record (layer 6) has it that learns
// a store's cells, and of how many cells.
func done(t *testing.T, words view.Plain, f func(v view.View)) (view.Plain, int) {
	t.Helper()
	s, err := word.New(len(words), api.MaxVersion)
	if err != nil {
		t.Fatal(err)
	}
	for i, w := range words {
		s.Set(i, w)
	}
	x := tx.New(s.Len())
	for i, ok := x.Run(f); !ok; i, ok = x.Run(f) {
		c, _ := s.Read(i)
		x.Learn(i, c)
	}
	got := slices.Clone(words)
	for _, e := range x.Entries() {
		got[e.Cell] = e.New
	}
	return got, x.Reads()
}

// P10.1 to P10.3: of a view that isn't a plain one, a record, all comes to what
// a plain view does; the most kids take no more cells than a call may read.
func TestOfRecords(t *testing.T) {
	before := linked(append([]int{0}, upTo(95)[1:]...), []int{7, 95})
	before[5*7+firstAt], before[5*95+parentAt] = 0, 0
	got, reads := done(t, before, func(v view.View) {
		Link(v, 0, 7)
		Unlink(v, 7)
		Unlink(v, 0)
		Replace(v, 0, 95)
	})
	if reads > api.MaxReads {
		t.Errorf("%d cells are read", reads)
	}
	want := slices.DeleteFunc(upTo(95)[1:], func(i int) bool { return i == 7 })
	stays(t, "a record", got, linked(append([]int{95}, want...)))

	got, _ = done(t, with(row{0, 0, 1, 0, 0}), func(v view.View) {
		Replace(v, 0, 5)
		if Leaf(v, 5) != 0 || len(Kids(v, 5)) != 1 {
			Link(v, 9, 10)
		}
	})
	stays(t, "a circle, of a record", got, with(row{5, 0, 1, 0, 0}))
}

// P10.3: slots linked below one by many at once (layer 8), in any order of
// steps, are all its kids, in the log's order.
func TestAtOnce(t *testing.T) {
	var d dice
	for round := range 30 {
		below := round % 10
		s, err := word.New(allWords, api.MaxVersion)
		if err != nil {
			t.Fatal(err)
		}
		for i, w := range filled() {
			s.Set(i, w)
		}
		var feeds []stm.Feed
		for worker := range 4 {
			var jobs []stm.Job
			for k := range 5 {
				jobs = append(jobs, func(v view.View) int {
					if Link(v, 10+5*worker+k, below) != nil || k == 3 && Unlink(v, 10+5*worker) != nil {
						return -1
					}
					return 10 + 5*worker + k
				})
			}
			feeds = append(feeds, stm.List(jobs))
		}
		m, err := stm.New(s, feeds)
		if err != nil {
			t.Fatal(err)
		}
		for !m.Idle() {
			m.Step(d.roll(4))
		}
		var w model
		for _, e := range m.Log() {
			want := w.link(e.Told, below)
			if e.Told%5 == 3 {
				w.unlink(e.Told - 3)
			}
			tells(t, "the log's", nil, want)
		}
		stays(t, "at once", s.Values(), w.words())
	}
}
