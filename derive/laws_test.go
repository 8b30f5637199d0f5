package derive

import (
	"math"
	"slices"
	"testing"

	"padstone/api"
	"padstone/cdt"
	"padstone/cspace"
	"padstone/rights"
	"padstone/stm"
	"padstone/tx"
	"padstone/view"
	"padstone/word"
)

// dice are numbers from a short rule: the same ones in each run.
type dice uint64

func (d *dice) roll(n int) int {
	*d = *d*6364136223846793005 + 1442695040888963407
	return int(uint64(*d) >> 33 % uint64(n))
}

// of is one of a list.
func (d *dice) of(l ...int) int { return l[d.roll(len(l))] }

// slot is a slot among the first n, or, now and then, what may be none.
func (d *dice) slot(n int) int {
	if d.roll(40) == 0 {
		return d.of(-1, 0, 95, 96, 97, 1<<62, math.MaxInt, math.MinInt)
	}
	return d.roll(n)
}

// cap is a capability that may be, of any kind but Null.
func (d *dice) cap() api.Cap {
	c := api.Cap{Kind: d.of(1, 2, 2, 3, 3, 3, 4, 4, 5, 6, 7, 8), Rights: d.roll(8), Obj: d.roll(32)}
	switch {
	case c.Kind == api.CNode:
		c.Bits = d.roll(9)
		c.Guard = d.roll(1 << c.Bits)
	case (c.Kind == api.Endpoint || c.Kind == api.Ntfn) && d.roll(3) == 0:
		c.Badge = d.of(1, 2, 7, 65535)
	}
	return c
}

// The chapter's words once more, with each slot's kids as a list of its own.

// there tells whether there is such a slot.
func there(i int) bool { return i >= 0 && i <= 95 }

// parent is what has a slot among its kids.
func (s *slots) parent(i int) int {
	return slices.IndexFunc(s.kids[:], func(l []int) bool { return slices.Contains(l, i) })
}

// lessened is a capability with the rights that a mask has, too.
func lessened(c api.Cap, mask int) api.Cap {
	rights := 0
	for _, right := range []int{1, 2, 4} {
		if c.Rights/right%2 == 1 && mask/right%2 == 1 {
			rights += right
		}
	}
	c.Rights = rights
	return c
}

// comes is what is to come of a capability by an op, and two numbers.
func comes(name string, c api.Cap, a, b int) (api.Cap, error) {
	badged := name == "Mint" && (c.Kind == api.Endpoint || c.Kind == api.Ntfn)
	switch {
	case name == "Move":
		return c, nil
	case name == "Mutate" && c.Kind != api.CNode, name == "Copy" && a >= 0 && a < 8 && c.Kind == api.Untyped:
		return c, api.ErrType
	case name == "Mutate" && (b < 0 || b > 8 || a < 0 || a > 1<<b-1), name != "Mutate" && (a < 0 || a > 7),
		name == "Mint" && (b < 1 || b > 65535):
		return c, api.ErrArg
	case name == "Mutate":
		c.Guard, c.Bits = a, b
		return c, nil
	case name == "Mint" && !badged:
		return c, api.ErrType
	case badged && c.Badge != 0:
		return c, api.ErrState
	case badged:
		c.Badge = b
	}
	return lessened(c, a), nil
}

// do is what an op is to do.
func (s *slots) do(name string, from, to, a, b int) error {
	switch {
	case !there(from) || !there(to) || s.caps[from].Kind == 0:
		return api.ErrNone
	case s.caps[to].Kind != 0:
		return api.ErrTaken
	}
	c, err := comes(name, s.caps[from], a, b)
	if err != nil {
		return err
	}
	above, moves := s.parent(from), name == "Move" || name == "Mutate"
	if s.parent(to) >= 0 || moves && len(s.kids[to]) > 0 {
		return api.ErrState
	}
	s.caps[to] = c
	if !moves {
		s.kids[from] = append([]int{to}, s.kids[from]...)
		return nil
	}
	s.caps[from] = api.Cap{}
	s.kids[to], s.kids[from] = s.kids[from], nil
	if above >= 0 {
		s.kids[above][slices.Index(s.kids[above], from)] = to
	}
	return nil
}

// remove is what Delete is to do.
func (s *slots) remove(slot int) error {
	switch {
	case !there(slot) || s.caps[slot].Kind == 0:
		return api.ErrNone
	case len(s.kids[slot]) > 0:
		return api.ErrChildren
	}
	s.caps[slot] = api.Cap{}
	if above := s.parent(slot); above >= 0 {
		s.kids[above] = slices.DeleteFunc(s.kids[above], func(i int) bool { return i == slot })
	}
	return nil
}

// one is what One is to do.
func (s *slots) one(slot int) (bool, error) {
	if !there(slot) {
		return false, api.ErrNone
	}
	leaf := slot
	for n := 0; n < 96 && len(s.kids[leaf]) > 0; n++ {
		leaf = s.kids[leaf][0]
	}
	if len(s.kids[slot]) == 0 {
		return false, nil
	}
	err := s.remove(leaf)
	return err == nil, err
}

// started are slots of a few capabilities, without kids, and now and then one
// without a capability among kids, or with some.
func (d *dice) started(n int) *slots {
	var s slots
	for range 1 + n/3 {
		s.caps[d.roll(n)] = d.cap()
	}
	if d.roll(3) == 0 {
		kid, parent := d.roll(n), d.roll(n)
		if kid != parent {
			s.kids[parent] = []int{kid}
		}
	}
	return &s
}

// args are two numbers for an op: mostly such as may be.
func (d *dice) args(name string) (int, int) {
	edges := []int{-1, 0, 1, 7, 8, 9, 255, 256, 65535, 65536, 1 << 32, math.MaxInt, math.MinInt}
	a, b := 7-d.roll(3), 1+d.roll(9)
	if name == "Mutate" {
		b = d.roll(9)
		a = d.roll(1 << b)
	}
	switch d.roll(12) {
	case 0:
		a = d.of(edges...)
	case 1:
		b = d.of(edges...)
	}
	return a, b
}

// within holds P12.3: each capability is within one that was there.
func within(t *testing.T, before, after view.Plain) {
	t.Helper()
	for _, x := range view.Changed(before, after) {
		c := cspace.Cap(after, x.At/slotWords)
		if x.At >= slotWords*manySlots || x.At%slotWords != 0 || c.Kind == api.Null {
			continue
		}
		found := false
		for i := range manySlots {
			found = found || rights.Within(c, cspace.Cap(before, i))
		}
		if !found {
			t.Fatalf("%+v isn't within one that was there", c)
		}
	}
}

// acts does one call of any sort to words, and to what they are to be.
func (d *dice) acts(t *testing.T, p view.Plain, s *slots, n int) (string, error) {
	t.Helper()
	l := ops()
	k, from, to := d.roll(len(l)+2), d.slot(n), d.slot(n)
	switch k {
	case len(l):
		err := s.remove(from)
		tells(t, "Delete", Delete(p, from), err)
		return "Delete", err
	case len(l) + 1:
		ok, err := s.one(from)
		one(t, "One", p, from, ok, err)
		return "One", err
	}
	a, b := d.args(l[k].name)
	err := s.do(l[k].name, from, to, a, b)
	tells(t, l[k].name, l[k].do(p, from, to, a, b), err)
	return l[k].name, err
}

// P12.1 to P12.3, R3: many calls one behind the other, of few slots and of all.
func TestLaws(t *testing.T) {
	type came struct {
		name string
		err  error
	}
	var d dice
	seen := map[came]int{}
	for round := range 900 {
		n := []int{3, 6, 12, 96}[round%4]
		s := d.started(n)
		p := s.words()
		for range 120 {
			before := slices.Clone(p)
			name, err := d.acts(t, p, s, n)
			seen[came{name, err}]++
			if !slices.Equal(p, s.words()) {
				t.Fatalf("round %d, %s, %v: %v", round, name, err, view.Changed(s.words(), p))
			}
			within(t, before, p)
		}
	}
	for _, x := range []came{{"Copy", nil}, {"Copy", api.ErrNone}, {"Copy", api.ErrTaken}, {"Copy", api.ErrArg},
		{"Copy", api.ErrType}, {"Copy", api.ErrState}, {"Mint", nil}, {"Mint", api.ErrNone}, {"Mint", api.ErrTaken},
		{"Mint", api.ErrArg}, {"Mint", api.ErrType}, {"Mint", api.ErrState}, {"Move", nil}, {"Move", api.ErrNone},
		{"Move", api.ErrTaken}, {"Move", api.ErrState}, {"Mutate", nil}, {"Mutate", api.ErrNone}, {"Mutate", api.ErrTaken},
		{"Mutate", api.ErrType}, {"Mutate", api.ErrArg}, {"Mutate", api.ErrState}, {"Delete", nil},
		{"Delete", api.ErrNone}, {"Delete", api.ErrChildren}, {"One", nil}, {"One", api.ErrNone}} {
		if seen[x] < 20 {
			t.Errorf("%s that tells %v: %d times", x.name, x.err, seen[x])
		}
	}
}

// P12.3: in words that calls left, One, as often as it tells true, leaves a slot
// without kids; all that was below it is gone, and nothing else.
func TestLawsOfOne(t *testing.T) {
	var d dice
	most := 0
	for range 300 {
		var s slots
		s.caps[0], s.caps[1], s.caps[2] = capOf(api.Endpoint), capOf(api.Frame), capOf(api.Ntfn)
		p := s.words()
		for range 60 {
			from, to := d.roll(20), d.roll(20)
			if s.do("Copy", from, to, 7, 0) == nil {
				tells(t, "Copy", Copy(p, from, to, 7), nil)
			}
		}
		slot, trues := d.roll(20), 0
		below := []int{slot}
		for n := 0; n < len(below); n++ {
			below = append(below, s.kids[below[n]]...)
		}
		ok, err := One(p, slot)
		for ; ok; ok, err = One(p, slot) {
			trues++
		}
		tells(t, "the last One", err, nil)
		if trues != len(below)-1 || len(cdt.Kids(p, slot)) > 0 {
			t.Fatalf("%d below %d: true %d times, kids %v", len(below)-1, slot, trues, cdt.Kids(p, slot))
		}
		for _, i := range below[1:] {
			s.caps[i], s.kids[i] = api.Cap{}, nil
		}
		s.kids[slot] = nil
		stays(t, "One by one", p, s.words())
		most = max(most, trues)
	}
	if most < 10 {
		t.Error("hardly anything was below a slot:", most)
	}
}

// Words that no call left.

// noLinks are words that tell no slot; cut off, or as signed numbers, some would.
var noLinks = []uint64{0, 97, 98, 480, 1 << 8, 1<<8 + 1, 1 << 32, 1<<32 + 1, 1<<62 + 1, 1 << 63, 1<<63 + 1, math.MaxUint64}

// littered are words of any capabilities, or of none, and of any links, of few slots.
func (d *dice) littered(n int) view.Plain {
	p := new(slots).words()
	for i := range slotWords * n {
		switch {
		case i%slotWords == 0 && d.roll(3) > 0:
			p[i] = wordOf(d.cap())
		case i%slotWords == 0:
			p[i] = append(noCaps, 0)[d.roll(len(noCaps)+1)]
		case d.roll(4) == 0:
			p[i] = noLinks[d.roll(len(noLinks))]
		default:
			p[i] = uint64(d.roll(n + 1))
		}
	}
	return p
}

// cleared takes a slot's capability, and now and then its Parent, or its kids.
func (d *dice) cleared(p view.Plain, slot int) {
	p[slotWords*slot] = append(noCaps, 0)[d.roll(len(noCaps)+1)]
	if d.roll(2) == 0 {
		p[slotWords*slot+1] = noLinks[d.roll(len(noLinks))]
	}
	if d.roll(2) == 0 {
		p[slotWords*slot+2] = noLinks[d.roll(len(noLinks))]
	}
}

// follows is what an op is to make of any words, by layer 10's calls.
func follows(p view.Plain, name string, from, to, a, b int) error {
	c := cspace.Cap(p, from)
	switch {
	case c.Kind == api.Null:
		return api.ErrNone
	case cspace.Cap(p, to).Kind != api.Null:
		return api.ErrTaken
	}
	c, err := comes(name, c, a, b)
	if err != nil {
		return err
	}
	if name == "Copy" || name == "Mint" {
		if err := cdt.Link(p, to, from); err != nil {
			return err
		}
	} else {
		if err := cdt.Replace(p, from, to); err != nil {
			return err
		}
		p[slotWords*from] = 0
	}
	p[slotWords*to] = wordOf(c)
	return nil
}

// goes is what Delete is to make of them.
func goes(p view.Plain, slot int) error {
	switch {
	case cspace.Cap(p, slot).Kind == api.Null:
		return api.ErrNone
	case len(cdt.Kids(p, slot)) > 0:
		return api.ErrChildren
	}
	p[slotWords*slot] = 0
	return cdt.Unlink(p, slot)
}

// P12.1, P12.3, R3, P1 of the whole: whatever the words, an op does what layers 3,
// 10 and 11 tell.
func TestLittered(t *testing.T) {
	var d dice
	for round := range 40000 {
		n := []int{1, 2, 3, 6, 20, 96}[round%6]
		p := d.littered(n)
		x, from, to := ops()[d.roll(4)], d.roll(n), d.roll(n)
		if from != to {
			d.cleared(p, to)
		}
		a, b := d.args(x.name)
		before, want := slices.Clone(p), slices.Clone(p)
		wantErr := follows(want, x.name, from, to, a, b)
		tells(t, x.name, x.do(p, from, to, a, b), wantErr)
		if !slices.Equal(p, want) {
			t.Fatalf("round %d, %s from %d to %d: %v", round, x.name, from, to, view.Changed(want, p))
		}
		within(t, before, p)
		if wantErr != nil {
			stays(t, x.name, p, before)
		}
	}
}

// P12.2, R3, P1 of the whole: whatever the words, so do Delete and One.
func TestLitteredDeletes(t *testing.T) {
	var d dice
	for round := range 20000 {
		n := []int{1, 2, 3, 6, 20, 96}[round%6]
		p, slot := d.littered(n), d.roll(n)
		if d.roll(2) == 0 {
			p[slotWords*slot+2] = noLinks[d.roll(len(noLinks))]
		}
		q, want := slices.Clone(p), slices.Clone(p)
		tells(t, "Delete", Delete(p, slot), goes(want, slot))
		stays(t, "Delete", p, want)

		want = slices.Clone(q)
		if len(cdt.Kids(q, slot)) == 0 {
			one(t, "One, without kids", q, slot, false, nil)
			stays(t, "One, without kids", q, want)
			continue
		}
		err := goes(want, cdt.Leaf(want, slot))
		one(t, "One", q, slot, err == nil, err)
		stays(t, "One", q, want)
	}
}

// P12.3, P1 of the whole: whatever the words, One tells true no more often than
// there are capabilities.
func TestLitteredOneByOne(t *testing.T) {
	var d dice
	for round := range 3000 {
		n := []int{1, 2, 3, 6, 20, 96}[round%6]
		p, slot, trues := d.littered(n), d.roll(n), 0
		for {
			ok, err := One(p, slot)
			if !ok {
				if err == nil && len(cdt.Kids(p, slot)) > 0 {
					t.Fatalf("round %d: kids %v, and false", round, cdt.Kids(p, slot))
				}
				break
			}
			if trues++; trues > n {
				t.Fatalf("round %d: true %d times", round, trues)
			}
		}
	}
}

// linksOf puts a slot's Parent, First, Next and Prev.
func linksOf(p view.Plain, slot int, l ...uint64) { copy(p[slotWords*slot+1:], l) }

// P12.1 to P12.3: lists that lead back into themselves.
func TestCircles(t *testing.T) {
	var s slots
	for i := range 4 {
		s.caps[i] = capOf(api.Endpoint)
	}
	for _, x := range []struct {
		what  string
		links [][]uint64
	}{
		{"its own kid", [][]uint64{{1, 1, 1, 1}}},
		{"its own first", [][]uint64{{0, 1, 0, 0}}},
		{"each other's kid", [][]uint64{{2, 2, 0, 0}, {1, 1, 0, 0}}},
		{"three below each other", [][]uint64{{3, 2, 0, 0}, {1, 3, 0, 0}, {2, 1, 0, 0}}},
		{"four below each other", [][]uint64{{4, 2, 0, 0}, {1, 3, 0, 0}, {2, 4, 0, 0}, {3, 1, 0, 0}}},
	} {
		p := s.words()
		for i, l := range x.links {
			linksOf(p, i, l...)
		}
		before := slices.Clone(p)
		for i := range x.links {
			one(t, x.what, p, i, false, api.ErrChildren)
			tells(t, x.what, Delete(p, i), api.ErrChildren)
			stays(t, x.what, p, before)
			tells(t, x.what, Copy(p, i, freeAt, 7), nil)
			tells(t, x.what, Delete(p, freeAt), nil)
			if w := p[slotWords*freeAt]; w != 0 || len(cdt.Kids(p, i)) == 0 {
				t.Errorf("%s: slot %d, kids %v, word %d", x.what, i, cdt.Kids(p, i), w)
			}
			p = slices.Clone(before)
			tells(t, x.what, Move(p, i, freeAt), nil)
			if p[slotWords*i] != 0 || p[slotWords*freeAt] != before[slotWords*i] || cdt.Parent(p, i) != -1 {
				t.Errorf("%s: slot %d is moved: %v", x.what, i, view.Changed(before, p))
			}
			p = slices.Clone(before)
		}
	}
}

// P12.2, P12.3: a kid that has no Parent is deleted, and stays first all the same;
// it isn't deleted once more.
func TestKidWithoutParent(t *testing.T) {
	var s slots
	s.caps[0], s.caps[5] = capOf(api.Ntfn), capOf(api.Ntfn)
	p := s.words()
	linksOf(p, 0, 0, 6)
	one(t, "a kid without a Parent", p, 0, true, nil)
	before := slices.Clone(p)
	one(t, "once more", p, 0, false, api.ErrNone)
	stays(t, "once more", p, before)
	if p[slotWords*5] != 0 {
		t.Error("it isn't deleted:", p[slotWords*5])
	}
}

// P12.2: kids, and a Parent, that words tell, and that aren't there, are none.
func TestNoLinks(t *testing.T) {
	for _, w := range noLinks {
		for _, slot := range []int{0, 40, 95} {
			s := new(slots)
			s.caps[slot] = capOf(api.Frame)
			p := s.words()
			linksOf(p, slot, w, w, w, w)
			one(t, "no kids", p, slot, false, nil)
			tells(t, "Copy", Copy(p, slot, 50, 1), nil)
			one(t, "a kid", p, slot, true, nil)
			tells(t, "Move", Move(p, slot, 50), nil)
			linksOf(p, slot, w, w, w, w)
			tells(t, "Move back", Move(p, 50, slot), nil)
			linksOf(p, slot, w, w, w, w)
			tells(t, "Delete", Delete(p, slot), nil)
			if p[slotWords*slot] != 0 || p[slotWords*50] != 0 {
				t.Errorf("links %d: words %d, %d", w, p[slotWords*slot], p[slotWords*50])
			}
		}
	}
}

// P12.1, P12.2, P1 of the whole: views that have fewer words than there are read
// 0 there, and nothing is written.
func TestShortViews(t *testing.T) {
	var d dice
	for _, words := range []int{0, 1, 2, 3, 4, 5, 6, 8, 20, 49, 50, 51, 100, 474, 475, 476, 479, 480, 737} {
		for range 300 {
			all := d.littered(96)
			clear(all[words:])
			x, from, to := ops()[d.roll(4)], d.roll(12)*d.of(1, 8), d.roll(12)*d.of(1, 8)
			if from != to {
				d.cleared(all, to)
				clear(all[words:])
			}
			p := slices.Clone(all[:words])
			a, b := d.args(x.name)
			tells(t, x.name, x.do(p, from, to, a, b), follows(all, x.name, from, to, a, b))
			stays(t, x.name+" of a short view", p, all[:words])
			clear(all[words:])
			tells(t, "Delete", Delete(p, from), goes(all, from))
			stays(t, "Delete of a short view", p, all[:words])
			One(p, to)
		}
	}
	var p view.Plain
	for _, x := range ops() {
		tells(t, "of no words", x.do(p, 0, 1, x.args[0], x.args[1]), api.ErrNone)
	}
	tells(t, "of no words", Delete(p, 0), api.ErrNone)
	one(t, "of no words", p, 0, false, nil)
	one(t, "of no words", p, 96, false, api.ErrNone)
}

// storeOf is a store of words.
func storeOf(t *testing.T, words view.Plain) *word.Store {
	t.Helper()
	s, err := word.New(len(words), api.MaxVersion)
	if err != nil {
		t.Fatal(err)
	}
	for i, w := range words {
		s.Set(i, w)
	}
	return s
}

// done is what a function does to words, as a record (layer 6) has it that learns
// a store's cells, and of how many cells.
func done(t *testing.T, words view.Plain, f func(v view.View)) (view.Plain, int) {
	t.Helper()
	s := storeOf(t, words)
	x := tx.New(s.Len())
	for i, ok := x.Run(f); !ok; i, ok = x.Run(f) {
		c, _ := s.Read(i)
		x.Learn(i, c)
	}
	got := slices.Clone(words)
	for _, e := range x.Entries() {
		got[e.Cell] = e.New
	}
	return got, x.Reads()
}

// P12.1, P12.2: of a view that isn't a plain one, a record, all comes to what a
// plain view does.
func TestOfRecords(t *testing.T) {
	var d dice
	for range 300 {
		s := grown()
		for range 5 {
			x, from, to := ops()[d.roll(4)], d.of(0, 9, 20, 30, 34, 51, 52, 53), d.of(40, 60, 41, 43, 20)
			a, b := d.args(x.name)
			slot, before := d.of(0, 9, 20, 30, 95), s.words()
			got, _ := done(t, before, func(v view.View) {
				x.do(v, from, to, a, b)
				One(v, slot)
				Delete(v, to)
			})
			s.do(x.name, from, to, a, b)
			s.one(slot)
			s.remove(to)
			stays(t, x.name+", of a record", got, s.words())
		}
	}
}

// P12.1, P12.2: of 95 kids no call reads more cells than one may; One and Delete
// read few, so that hardly anybody is in the way of who revokes.
func TestReads(t *testing.T) {
	var s slots
	for i := range manySlots {
		s.caps[i] = capOf(api.CNode)
	}
	s.caps[95] = api.Cap{}
	for i := 1; i < 95; i++ {
		s.kids[0] = append(s.kids[0], i)
	}
	for _, x := range []struct {
		what string
		most int
		f    func(v view.View)
	}{
		{"Copy", 12, func(v view.View) { Copy(v, 0, 95, 7) }},
		{"Move", api.MaxReads, func(v view.View) { Move(v, 0, 95) }},
		{"Mutate", api.MaxReads, func(v view.View) { Mutate(v, 0, 95, 0, 1) }},
		{"Delete", 12, func(v view.View) { Delete(v, 0) }},
		{"Delete of a kid", 12, func(v view.View) { Delete(v, 40) }},
		{"One", 12, func(v view.View) { One(v, 0) }},
	} {
		if _, n := done(t, s.words(), x.f); n > x.most {
			t.Errorf("%s: %d cells are read", x.what, n)
		}
	}
}

// jobOf is a job of any call, that tells its error's number, and 100 more, if
// One told true.
func (d *dice) jobOf() stm.Job {
	x, from, to, k := ops()[d.roll(4)], d.of(0, 9, 30, 70, 71), d.of(70, 71, 72), d.roll(7)
	return func(v view.View) int {
		var err error
		ok := false
		switch k {
		case 0:
			err = Delete(v, from)
		case 1, 2:
			ok, err = One(v, from)
		default:
			err = x.do(v, from, to, x.args[0], x.args[1])
		}
		n := 0
		if c, is := err.(api.Code); is {
			n = int(c)
		}
		if ok {
			n += 100
		}
		return n
	}
}

// P12.1, P12.2: by many at once (layer 8), in any order of steps, all comes to
// what is done one behind the other, in the log's order.
func TestAtOnce(t *testing.T) {
	var d dice
	told := map[int]int{}
	for range 60 {
		p := grown().words()
		var jobs [4][]stm.Job
		var feeds []stm.Feed
		for worker := range jobs {
			for range 5 {
				jobs[worker] = append(jobs[worker], d.jobOf())
			}
			feeds = append(feeds, stm.List(jobs[worker]))
		}
		s := storeOf(t, p)
		m, err := stm.New(s, feeds)
		if err != nil {
			t.Fatal(err)
		}
		for !m.Idle() {
			m.Step(d.roll(4))
		}
		for _, e := range m.Log() {
			told[e.Told]++
			if n := jobs[e.Worker][e.Job](p); n != e.Told {
				t.Fatalf("job %d of worker %d told %d, in the log's order %d", e.Job, e.Worker, e.Told, n)
			}
		}
		stays(t, "at once", s.Values(), p)
	}
	for _, n := range []int{0, 100, int(api.ErrNone), int(api.ErrTaken), int(api.ErrChildren)} {
		if told[n] < 5 {
			t.Errorf("%d was told %d times: %v", n, told[n], told)
		}
	}
}
