package derive

import (
	"errors"
	"math"
	"slices"
	"strconv"
	"testing"

	"padstone/api"
	"padstone/view"
)

// Words, as layer 9's chapter counts them: five a slot, and 258 behind all slots.
const (
	slotWords = 5
	manySlots = 96
	allWords  = 738
)

// noSlots are numbers that no slot has. Five times some of them wraps round, to
// a word that is there.
var noSlots = []int{-1, -2, -5, -96, -1 << 32, -1 << 61, math.MinInt + 1, math.MinInt,
	96, 97, 100, 480, 737, 1 << 32, 1<<32 + 1, 1 << 62, 3689348814741910323, 3689348814741910324,
	math.MaxInt - 1, math.MaxInt}

// noCaps are words of no capability.
var noCaps = []uint64{2 | 9<<28, 2 | 1<<32, 6 | 1<<12, 9, 15, 16, 128, 1 << 12, 1 << 40, 3 | 1<<40, 1 << 63, math.MaxUint64}

// capOf is a capability of a kind, with all rights, as none was derived of.
func capOf(kind int) api.Cap { return api.Cap{Kind: kind, Rights: api.CanAll, Obj: kind} }

// wordOf is a capability's word, part by part.
func wordOf(c api.Cap) uint64 {
	return uint64(c.Kind + 16*c.Rights + 128*c.Obj + 4096*c.Badge + 1<<28*c.Bits + 1<<32*c.Guard)
}

// slots are what slots have: capabilities, and each its kids, in order.
type slots struct {
	caps [manySlots]api.Cap
	kids [manySlots][]int
}

// clone is what they have, with no memory that is theirs.
func (s *slots) clone() *slots {
	c := *s
	for i, l := range s.kids {
		c.kids[i] = slices.Clone(l)
	}
	return &c
}

// words are those of it; those that are no slots' are each unlike all others.
func (s *slots) words() view.Plain {
	p := make(view.Plain, allWords)
	for i := slotWords * manySlots; i < allWords; i++ {
		p[i] = uint64(100000 + i)
	}
	for i, c := range s.caps {
		p[slotWords*i] = wordOf(c)
	}
	for i, l := range s.kids {
		for n, k := range l {
			p[slotWords*k+1] = uint64(i + 1)
			if n == 0 {
				p[slotWords*i+2] = uint64(k + 1)
				continue
			}
			p[slotWords*k+4] = uint64(l[n-1] + 1)
			p[slotWords*l[n-1]+3] = uint64(k + 1)
		}
	}
	return p
}

// The slots of grown.
const (
	cnodeAt = 0  // a CNode, below 95, with kids 20, 21, 22
	ntfnAt  = 1  // an Ntfn with a badge, below 9
	threeAt = 9  // an Endpoint, with kids 30, 31, 1
	freeAt  = 40 // nothing, and below, above, beside nothing
	lastAt  = 95 // a CNode with a guard, with kid 0
)

// grown are slots with all that the chapter speaks of: each kind at 50 and on,
// kids of kids (9: 30: 33: 34), and slots without a capability among kids (41,
// with kid 42), or with kids (43, with kid 44).
func grown() *slots {
	var s slots
	for kind := api.Untyped; kind <= api.Irq; kind++ {
		s.caps[50+kind] = capOf(kind)
	}
	for _, i := range []int{cnodeAt, 20, 21, 22} {
		s.caps[i] = api.Cap{Kind: api.CNode, Rights: 7, Obj: 2, Guard: 5, Bits: 3}
	}
	for _, i := range []int{threeAt, 30, 31, 33, 34, 42, 44} {
		s.caps[i] = capOf(api.Endpoint)
	}
	s.caps[34].Badge = 65535
	s.caps[ntfnAt] = api.Cap{Kind: api.Ntfn, Rights: api.CanWrite, Obj: 4, Badge: 7}
	s.caps[lastAt] = api.Cap{Kind: api.CNode, Rights: 3, Obj: 31, Guard: 255, Bits: 8}
	s.kids[lastAt] = []int{cnodeAt}
	s.kids[cnodeAt] = []int{20, 21, 22}
	s.kids[threeAt] = []int{30, 31, ntfnAt}
	s.kids[30] = []int{33}
	s.kids[33] = []int{34}
	s.kids[52] = []int{41, 45}
	s.kids[41] = []int{42}
	s.kids[43] = []int{44}
	return &s
}

// op is a call of two slots, and of two numbers more, as far as it asks for them.
type op struct {
	name string
	do   func(v view.View, from, to, a, b int) error
	from int    // a slot of grown that it may be done of
	args [2]int // with those
}

// ops are all of them.
func ops() []op {
	return []op{
		{"Copy", func(v view.View, from, to, a, _ int) error { return Copy(v, from, to, a) }, threeAt, [2]int{3, 0}},
		{"Mint", Mint, threeAt, [2]int{7, 9}},
		{"Move", func(v view.View, from, to, _, _ int) error { return Move(v, from, to) }, threeAt, [2]int{}},
		{"Mutate", Mutate, cnodeAt, [2]int{1, 2}},
	}
}

// stays holds that words are just those.
func stays(t *testing.T, what string, p, want view.Plain) {
	t.Helper()
	if !slices.Equal(p, want) {
		t.Errorf("%s: words unlike those that are to be: %v, of %v", what, view.Changed(want, p), view.Changed(p, want))
	}
}

// tells holds a call's error, itself, against what it is to be.
func tells(t *testing.T, what string, err, want error) {
	t.Helper()
	if !errors.Is(err, want) || want == nil && err != nil {
		t.Errorf("%s: %v, want %v", what, err, want)
	}
	if c, ok := err.(api.Code); err != nil && (!ok || c != want) {
		t.Errorf("%s: %v isn't the Code itself", what, err)
	}
}

// refuses holds that a call tells an error, and changes no word.
func refuses(t *testing.T, what string, p view.Plain, want error, f func(v view.View) error) {
	t.Helper()
	before := slices.Clone(p)
	tells(t, what, f(p), want)
	stays(t, what, p, before)
}

// becomes holds that a call makes slots what they are to be then.
func becomes(t *testing.T, what string, before, want *slots, f func(v view.View) error) {
	t.Helper()
	p := before.words()
	tells(t, what, f(p), nil)
	stays(t, what, p, want.words())
}

// one holds what One tells.
func one(t *testing.T, what string, v view.View, slot int, want bool, wantErr error) {
	t.Helper()
	got, err := One(v, slot)
	if got != want {
		t.Errorf("%s: %v, want %v", what, got, want)
	}
	tells(t, what, err, wantErr)
}

// The chapter's example.
func TestExample(t *testing.T) {
	p := new(slots).words()
	p[slotWords*9] = wordOf(capOf(api.Endpoint))
	tells(t, "Copy", Copy(p, 9, 10, api.CanAll), nil)
	refuses(t, "Delete of from", p, api.ErrChildren, func(v view.View) error { return Delete(v, 9) })
}

// P12.1: each kind is copied by each mask, but for memory: below from, as its
// first kid, with the rights that both have; from stays as it is.
func TestCopy(t *testing.T) {
	for kind := api.CNode; kind <= api.Irq; kind++ {
		for rights := range 8 {
			for mask := range 8 {
				s := grown()
				s.caps[50+kind].Rights = rights
				want := s.clone()
				want.caps[freeAt] = s.caps[50+kind]
				want.caps[freeAt].Rights = rights & mask
				want.kids[50+kind] = append([]int{freeAt}, s.kids[50+kind]...)
				becomes(t, "kind "+strconv.Itoa(kind), s, want, func(v view.View) error {
					return Copy(v, 50+kind, freeAt, mask)
				})
			}
		}
	}
}

// P12.1: what is copied keeps its badge, or its guard, and may be a kid itself,
// or a kid's kid.
func TestCopyOfDerived(t *testing.T) {
	for _, from := range []int{ntfnAt, lastAt, cnodeAt, 20, 30, 33, 34} {
		s := grown()
		want := s.clone()
		want.caps[freeAt] = s.caps[from]
		want.kids[from] = append([]int{freeAt}, s.kids[from]...)
		becomes(t, "Copy of "+strconv.Itoa(from), s, want, func(v view.View) error {
			return Copy(v, from, freeAt, api.CanAll)
		})
	}
}

// P12.1: one behind the other, each is the first kid.
func TestCopies(t *testing.T) {
	s := grown()
	want := s.clone()
	p := s.words()
	for _, to := range []int{70, 60, 94, freeAt} {
		tells(t, "Copy", Copy(p, threeAt, to, 5), nil)
		want.caps[to] = api.Cap{Kind: api.Endpoint, Rights: 5, Obj: 3}
		want.kids[threeAt] = append([]int{to}, want.kids[threeAt]...)
		stays(t, "Copy", p, want.words())
	}
}

// P12.1: of a capability that a mask's rights are none of, a copy has none.
func TestCopyOfNoRights(t *testing.T) {
	s := grown()
	s.caps[58].Rights = 4
	want := s.clone()
	want.caps[freeAt] = api.Cap{Kind: api.Irq, Obj: 8}
	want.kids[58] = []int{freeAt}
	becomes(t, "no rights", s, want, func(v view.View) error { return Copy(v, 58, freeAt, 3) })
}

// P12.1: an Endpoint, and an Ntfn, by each mask, is minted as it is copied, but
// with the badge.
func TestMint(t *testing.T) {
	for _, kind := range []int{api.Endpoint, api.Ntfn} {
		for rights := range 8 {
			for mask := range 8 {
				s := grown()
				s.caps[50+kind].Rights = rights
				s.kids[50+kind] = []int{60, 61}
				want := s.clone()
				want.caps[freeAt] = api.Cap{Kind: kind, Rights: rights & mask, Obj: kind, Badge: 9}
				want.kids[50+kind] = []int{freeAt, 60, 61}
				becomes(t, "kind "+strconv.Itoa(kind), s, want, func(v view.View) error {
					return Mint(v, 50+kind, freeAt, mask, 9)
				})
			}
		}
	}
}

// P12.1: each badge that may be is given.
func TestMintBadges(t *testing.T) {
	s := grown()
	want := s.clone()
	want.caps[freeAt] = capOf(api.Endpoint)
	want.kids[threeAt] = append([]int{freeAt}, s.kids[threeAt]...)
	words := want.words()
	before := s.words()
	for badge := 1; badge <= 65535; badge++ {
		p := slices.Clone(before)
		err := Mint(p, threeAt, freeAt, 7, badge)
		words[slotWords*freeAt] = wordOf(api.Cap{Kind: api.Endpoint, Rights: 7, Obj: 3, Badge: badge})
		if err != nil || !slices.Equal(p, words) {
			t.Fatalf("badge %d: %v, %v", badge, err, view.Changed(before, p))
		}
	}
}

// P12.1: what is moved has all that from had, each word by word, whatever it is
// of, and wherever it stands among another one's kids; from has nothing.
func TestMove(t *testing.T) {
	for _, x := range []struct {
		what  string
		from  int
		above int // whose kid it is
		then  []int
	}{
		{"the first kid, with one of its own", 30, threeAt, []int{freeAt, 31, ntfnAt}},
		{"the middle kid", 31, threeAt, []int{30, freeAt, ntfnAt}},
		{"the last kid, with a badge", ntfnAt, threeAt, []int{30, 31, freeAt}},
		{"the only kid, with three", cnodeAt, lastAt, []int{freeAt}},
		{"a kid's kid", 33, 30, []int{freeAt}},
		{"below what has no capability", 42, 41, []int{freeAt}},
	} {
		s := grown()
		want := s.clone()
		want.caps[freeAt], want.caps[x.from] = s.caps[x.from], api.Cap{}
		want.kids[x.above] = x.then
		want.kids[freeAt], want.kids[x.from] = s.kids[x.from], nil
		becomes(t, x.what, s, want, func(v view.View) error { return Move(v, x.from, freeAt) })
	}
	for _, from := range []int{threeAt, lastAt, 51, 52, 53, 54, 55, 56, 57, 58} {
		s := grown()
		want := s.clone()
		want.caps[freeAt], want.caps[from] = s.caps[from], api.Cap{}
		want.kids[freeAt], want.kids[from] = s.kids[from], nil
		becomes(t, "without a Parent", s, want, func(v view.View) error { return Move(v, from, freeAt) })
	}
}

// P12.1: what is moved, and back, is as it was.
func TestMoveAndBack(t *testing.T) {
	for from := range manySlots {
		s := grown()
		if s.caps[from].Kind == api.Null {
			continue
		}
		becomes(t, "there and back", s, s, func(v view.View) error {
			if err := Move(v, from, freeAt); err != nil {
				return err
			}
			return Move(v, freeAt, from)
		})
	}
}

// P12.1: a CNode is moved, with another guard, of as many bits as it may have,
// whether it has kids, or a Parent, or not.
func TestMutate(t *testing.T) {
	for bits := range 9 {
		for _, guard := range []int{0, 1<<bits - 1, (1<<bits - 1) / 2, 1 << bits >> 1} {
			for _, from := range []int{cnodeAt, 21, lastAt, 52} {
				s := grown()
				want := s.clone()
				want.caps[freeAt], want.caps[from] = s.caps[from], api.Cap{}
				want.caps[freeAt].Guard, want.caps[freeAt].Bits = guard, bits
				want.kids[freeAt], want.kids[from] = s.kids[from], nil
				switch from {
				case cnodeAt:
					want.kids[lastAt] = []int{freeAt}
				case 21:
					want.kids[cnodeAt] = []int{20, freeAt, 22}
				}
				becomes(t, "guard "+strconv.Itoa(guard)+" of "+strconv.Itoa(bits), s, want, func(v view.View) error {
					return Mutate(v, from, freeAt, guard, bits)
				})
			}
		}
	}
}

// P12.1: from the first slot to the last one, and the other way round.
func TestEnds(t *testing.T) {
	for _, x := range ops() {
		for _, ends := range [][2]int{{0, 95}, {95, 0}, {0, 1}, {1, 0}, {94, 95}, {95, 94}} {
			var s slots
			s.caps[ends[0]] = grown().caps[x.from]
			p := s.words()
			tells(t, x.name, x.do(p, ends[0], ends[1], x.args[0], x.args[1]), nil)
			if p[slotWords*ends[1]] == 0 {
				t.Errorf("%s, from %d to %d: no capability", x.name, ends[0], ends[1])
			}
			if moves := x.name == "Move" || x.name == "Mutate"; moves != (p[slotWords*ends[0]] == 0) {
				t.Errorf("%s, from %d to %d: from has word %d", x.name, ends[0], ends[1], p[slotWords*ends[0]])
			}
		}
	}
}

// P12.1, R1, R3, P1 of the whole: what isn't there is ErrNone, ahead of all else.
func TestNone(t *testing.T) {
	p := append(grown().words(), grown().words()...)
	for _, x := range ops() {
		for _, no := range noSlots {
			for _, i := range append([]int{0, threeAt, freeAt, 41, 43, 51, 95}, noSlots...) {
				for _, args := range [][2]int{x.args, {-1, -1}, {8, 0}} {
					refuses(t, x.name+", no from", p, api.ErrNone, func(v view.View) error {
						return x.do(v, no, i, args[0], args[1])
					})
					refuses(t, x.name+", no to", p, api.ErrNone, func(v view.View) error {
						return x.do(v, i, no, args[0], args[1])
					})
				}
			}
		}
	}
}

// P12.1, R1, R3: a from without a capability is ErrNone, ahead of a to that has
// one, also if that is the same slot, and ahead of what has kids, or a Parent.
func TestNoCapability(t *testing.T) {
	for _, x := range ops() {
		for _, from := range []int{freeAt, 41, 43, 45, 94, 2} {
			for to := range manySlots {
				for _, args := range [][2]int{x.args, {-1, -1}, {8, 0}} {
					refuses(t, x.name+", without one", grown().words(), api.ErrNone, func(v view.View) error {
						return x.do(v, from, to, args[0], args[1])
					})
				}
			}
		}
		for _, w := range noCaps {
			p := grown().words()
			p[slotWords*threeAt] = w
			refuses(t, x.name+", of a word that is none", p, api.ErrNone, func(v view.View) error {
				return x.do(v, threeAt, 20, x.args[0], x.args[1])
			})
		}
	}
}

// P12.1, R1, R3: a to that has a capability is ErrTaken, also if it is from, and
// whatever else isn't as it is to be: the mask, the badge, the guard, the kind.
func TestTaken(t *testing.T) {
	s := grown()
	for _, x := range ops() {
		for _, from := range []int{cnodeAt, threeAt, 30, 51, 52, 55, ntfnAt, lastAt} {
			for to, c := range s.caps {
				if c.Kind == api.Null {
					continue
				}
				for _, args := range [][2]int{x.args, {-1, -1}, {8, 65536}, {7, 0}, {256, 8}} {
					refuses(t, x.name+", to what has one", s.words(), api.ErrTaken, func(v view.View) error {
						return x.do(v, from, to, args[0], args[1])
					})
				}
			}
		}
	}
}

// P12.1: a to whose word is no capability's has none.
func TestToOfNone(t *testing.T) {
	for _, x := range ops() {
		for _, w := range noCaps {
			p, q := grown().words(), grown().words()
			p[slotWords*freeAt] = w
			tells(t, x.name, x.do(p, x.from, freeAt, x.args[0], x.args[1]), nil)
			tells(t, x.name, x.do(q, x.from, freeAt, x.args[0], x.args[1]), nil)
			stays(t, x.name+", to a word that is none", p, q)
		}
	}
}

// refusedAt are a call's arguments, and the error of layer 3 that they come to.
type refusedAt struct {
	name string
	from int
	a, b int
	want error
}

// refusedMasks are those of Copy, and of Mint, by masks that may not be, and by
// kinds that are neither copied nor minted.
func refusedMasks() []refusedAt {
	var l []refusedAt
	for _, mask := range []int{-1, 8, 9, -7, 15, 1 << 32, math.MaxInt, math.MinInt} {
		for from := 51; from <= 58; from++ {
			l = append(l, refusedAt{"Copy", from, mask, 0, api.ErrArg}, refusedAt{"Mint", from, mask, 9, api.ErrArg})
		}
		l = append(l, refusedAt{"Copy", 34, mask, 0, api.ErrArg}, refusedAt{"Mint", 34, mask, 9, api.ErrArg})
	}
	for mask := range 8 {
		l = append(l, refusedAt{"Copy", 51, mask, 0, api.ErrType})
		for _, from := range []int{51, 52, 55, 56, 57, 58, cnodeAt} {
			l = append(l, refusedAt{"Mint", from, mask, 9, api.ErrType})
		}
		for _, from := range []int{34, ntfnAt} {
			l = append(l, refusedAt{"Mint", from, mask, 9, api.ErrState}, refusedAt{"Mint", from, mask, 7, api.ErrState})
		}
	}
	return l
}

// refusedBadges are those of Mint, by badges that may not be.
func refusedBadges() []refusedAt {
	var l []refusedAt
	for _, badge := range []int{0, -1, 65536, 65537, 131071, 1 << 32, 1<<32 + 1, math.MaxInt, math.MinInt} {
		for _, from := range []int{threeAt, 53, 54, 52, 51, 34, ntfnAt} {
			l = append(l, refusedAt{"Mint", from, 7, badge, api.ErrArg})
		}
	}
	return l
}

// refusedGuards are those of Mutate, by guards that may not be, and by kinds.
func refusedGuards() []refusedAt {
	var l []refusedAt
	for _, from := range []int{51, 53, 54, 55, 56, 57, 58, 34, ntfnAt} {
		for _, g := range [][2]int{{0, 0}, {1, 2}, {2, 1}, {-1, 9}} {
			l = append(l, refusedAt{"Mutate", from, g[0], g[1], api.ErrType})
		}
	}
	for _, g := range [][2]int{{1, 0}, {2, 1}, {4, 2}, {255, 7}, {256, 8}, {-1, 8}, {-1, 0}, {0, 9}, {0, -1}, {511, 9},
		{0, 64}, {1 << 32, 8}, {0, 1 << 32}, {math.MinInt, 8}, {math.MaxInt, 8}, {0, math.MaxInt}, {0, math.MinInt}} {
		for _, from := range []int{cnodeAt, 20, 52, lastAt} {
			l = append(l, refusedAt{"Mutate", from, g[0], g[1], api.ErrArg})
		}
	}
	return l
}

// P12.1, R1, R3: layer 3's errors, also where layer 10 would tell one: to has a
// Parent (41, 45), or kids (41, 43).
func TestRightsErrors(t *testing.T) {
	do := map[string]op{}
	for _, x := range ops() {
		do[x.name] = x
	}
	for _, x := range slices.Concat(refusedMasks(), refusedBadges(), refusedGuards()) {
		for _, to := range []int{freeAt, 41, 43, 45} {
			refuses(t, x.name+" of "+strconv.Itoa(x.from), grown().words(), x.want, func(v view.View) error {
				return do[x.name].do(v, x.from, to, x.a, x.b)
			})
		}
	}
}

// P12.1, R3: to has no capability, but a Parent: it is neither linked nor put in
// from's place; with kids alone it is linked.
func TestLinksErrors(t *testing.T) {
	for _, x := range ops() {
		for _, to := range []int{41, 45} {
			refuses(t, x.name+", to what has a Parent", grown().words(), api.ErrState, func(v view.View) error {
				return x.do(v, x.from, to, x.args[0], x.args[1])
			})
		}
	}
	for _, x := range ops()[2:] {
		refuses(t, x.name+", to what has kids", grown().words(), api.ErrState, func(v view.View) error {
			return x.do(v, x.from, 43, x.args[0], x.args[1])
		})
	}
	s := grown()
	want := s.clone()
	want.caps[43] = api.Cap{Kind: api.Endpoint, Rights: 3, Obj: 3}
	want.kids[threeAt] = append([]int{43}, s.kids[threeAt]...)
	becomes(t, "Copy, to what has kids", s, want, func(v view.View) error { return Copy(v, threeAt, 43, 3) })
	want.caps[43].Badge = 9
	becomes(t, "Mint, to what has kids", s, want, func(v view.View) error { return Mint(v, threeAt, 43, 3, 9) })
}

// P12.2: the first, the middle, the last and the only kid is deleted, and what
// has no Parent, of any kind.
func TestDelete(t *testing.T) {
	for _, x := range []struct{ slot, above int }{{20, cnodeAt}, {21, cnodeAt}, {22, cnodeAt},
		{31, threeAt}, {ntfnAt, threeAt}, {34, 33}, {42, 41}, {44, 43}} {
		s := grown()
		want := s.clone()
		want.caps[x.slot] = api.Cap{}
		want.kids[x.above] = slices.DeleteFunc(want.kids[x.above], func(i int) bool { return i == x.slot })
		becomes(t, "Delete of "+strconv.Itoa(x.slot), s, want, func(v view.View) error { return Delete(v, x.slot) })
	}
	for _, slot := range []int{51, 53, 54, 55, 56, 57, 58} {
		s := grown()
		want := s.clone()
		want.caps[slot] = api.Cap{}
		becomes(t, "Delete of "+strconv.Itoa(slot), s, want, func(v view.View) error { return Delete(v, slot) })
	}
	for _, slot := range []int{0, 95} {
		var s slots
		s.caps[slot] = capOf(api.Frame)
		becomes(t, "Delete at an end", &s, new(slots), func(v view.View) error { return Delete(v, slot) })
	}
}

// P12.2, R1, R3: Delete of what isn't there, of what has no capability, also with
// kids, and of what has kids.
func TestDeleteErrors(t *testing.T) {
	long := append(grown().words(), grown().words()...)
	for _, no := range noSlots {
		refuses(t, "no such slot", long, api.ErrNone, func(v view.View) error { return Delete(v, no) })
	}
	for slot, c := range grown().caps {
		if c.Kind == api.Null {
			refuses(t, "no capability", grown().words(), api.ErrNone, func(v view.View) error { return Delete(v, slot) })
		}
	}
	for _, w := range noCaps {
		p := grown().words()
		p[slotWords*31] = w
		refuses(t, "a word that is none", p, api.ErrNone, func(v view.View) error { return Delete(v, 31) })
	}
	for _, slot := range []int{cnodeAt, threeAt, 30, 33, 52, lastAt} {
		refuses(t, "with kids", grown().words(), api.ErrChildren, func(v view.View) error { return Delete(v, slot) })
	}
	p := grown().words()
	tells(t, "once", Delete(p, 31), nil)
	refuses(t, "twice", p, api.ErrNone, func(v view.View) error { return Delete(v, 31) })
}

// P12.2: One deletes the last of the first kids: of several the first, of kids'
// kids the one below them all; what has none stays, and what isn't there is ErrNone.
func TestOne(t *testing.T) {
	for _, x := range []struct{ slot, leaf, above int }{
		{threeAt, 34, 33}, {30, 34, 33}, {33, 34, 33}, {cnodeAt, 20, cnodeAt}, {lastAt, 20, cnodeAt},
		{52, 42, 41}, {41, 42, 41}, {43, 44, 43}} {
		s := grown()
		want := s.clone()
		want.caps[x.leaf] = api.Cap{}
		want.kids[x.above] = want.kids[x.above][1:]
		p := s.words()
		one(t, "One of "+strconv.Itoa(x.slot), p, x.slot, true, nil)
		stays(t, "One of "+strconv.Itoa(x.slot), p, want.words())
		if n := p[slotWords*x.leaf+1]; n != 0 {
			t.Errorf("One of %d: what was deleted has Parent %d", x.slot, n)
		}
	}
	for slot, l := range grown().kids {
		if len(l) == 0 {
			p := grown().words()
			one(t, "without kids", p, slot, false, nil)
			stays(t, "without kids", p, grown().words())
		}
	}
	long := append(grown().words(), grown().words()...)
	p := slices.Clone(long)
	for _, no := range noSlots {
		one(t, "no such slot", p, no, false, api.ErrNone)
	}
	stays(t, "no such slot", p, long)
}

// P12.3: One, as often as it tells true: all that was below is gone then, one by
// one, and nothing else.
func TestOneByOne(t *testing.T) {
	for slot, below := range map[int][]int{threeAt: {30, 31, 33, 34, ntfnAt}, 30: {33, 34},
		lastAt: {cnodeAt, 20, 21, 22}, cnodeAt: {20, 21, 22}} {
		s := grown()
		p := s.words()
		for range below {
			one(t, "below "+strconv.Itoa(slot), p, slot, true, nil)
		}
		for range 2 {
			one(t, "below "+strconv.Itoa(slot)+" no more", p, slot, false, nil)
		}
		s.kids[slot] = nil
		for _, i := range below {
			s.caps[i], s.kids[i] = api.Cap{}, nil
		}
		stays(t, "below "+strconv.Itoa(slot), p, s.words())
		tells(t, "Delete", Delete(p, slot), nil)
	}
}

// P12.2, R3: a leaf without a capability can't be deleted: that is Delete's error.
func TestOneOfNoCapability(t *testing.T) {
	s := grown()
	s.caps[42] = api.Cap{}
	for _, slot := range []int{52, 41} {
		p := s.words()
		one(t, "a leaf without one", p, slot, false, api.ErrNone)
		stays(t, "a leaf without one", p, s.words())
	}
}

// P12.1 to P12.3: 95 below one, and 96 each below the one ahead.
func TestMany(t *testing.T) {
	p := new(slots).words()
	p[0] = wordOf(capOf(api.Endpoint))
	for to := 1; to < manySlots; to++ {
		tells(t, "all below one", Copy(p, 0, to, 7), nil)
	}
	for range 95 {
		one(t, "all below one", p, 0, true, nil)
	}
	one(t, "all below one", p, 0, false, nil)
	for to := 1; to < manySlots; to++ {
		tells(t, "each below the one ahead", Copy(p, to-1, to, 7), nil)
	}
	for n := range 95 {
		one(t, "each below the one ahead", p, 0, true, nil)
		if p[slotWords*(95-n)] != 0 || p[slotWords*(94-n)] == 0 {
			t.Fatalf("number %d: not the lowest one is deleted", n)
		}
	}
	one(t, "each below the one ahead", p, 0, false, nil)
	tells(t, "the last of all", Delete(p, 0), nil)
	stays(t, "the last of all", p, new(slots).words())
}
