package cspace

import (
	"errors"
	"math"
	"slices"
	"testing"

	"padstone/api"
	"padstone/view"
)

// Words of slots and objects, as layer 9's chapter counts them: five a slot,
// behind all of those eight an object, and two words more.
const (
	slotWords = 5
	objsAt    = 480
	objWords  = 8
	allWords  = 738
)

// noSlots are numbers that no slot has. Five times some of them wraps round, to
// a word that is there.
var noSlots = []int{-1, -2, -5, -96, -1 << 32, -1 << 61, math.MinInt + 1, math.MinInt,
	96, 97, 100, 480, 737, 1 << 32, 1<<32 + 1, 1 << 62, 3689348814741910323, 3689348814741910324,
	math.MaxInt - 1, math.MaxInt}

// noObjs are numbers that no object has; eight times some of them wraps round.
var noObjs = []int{-1, -2, -60, -1 << 32, -1 << 61, math.MinInt + 1, math.MinInt, 32, 33, 64, 1 << 32, 1<<32 + 2,
	1 << 61, 1<<61 + 2, 1 << 62, math.MaxInt - 1, math.MaxInt}

// wordOf is a capability's word, part by part.
func wordOf(c api.Cap) uint64 {
	return uint64(c.Kind + 16*c.Rights + 128*c.Obj + 4096*c.Badge + 1<<28*c.Bits + 1<<32*c.Guard)
}

// cnode is a CNode's capability, with a guard of so many bits.
func cnode(obj, guard, bits int) api.Cap {
	return api.Cap{Kind: api.CNode, Rights: api.CanAll, Obj: obj, Guard: guard, Bits: bits}
}

// filled are words of no capabilities, and no CNodes, but for that each is unlike
// all others.
func filled() view.Plain {
	p := make(view.Plain, allWords)
	for i := range p {
		if i >= objsAt || i%slotWords > 0 {
			p[i] = uint64(100000 + i)
		}
	}
	return p
}

// isCNode lets an object be a CNode, of a first slot and a radix.
func isCNode(p view.Plain, obj int, first, radix uint64) {
	copy(p[objsAt+objWords*obj:], []uint64{api.CNode, first, radix})
}

// holds lets a slot have a capability.
func holds(p view.Plain, slot int, c api.Cap) { p[slotWords*slot] = wordOf(c) }

// stays holds that words are just those.
func stays(t *testing.T, what string, p, want view.Plain) {
	t.Helper()
	if !slices.Equal(p, want) {
		t.Errorf("%s: words unlike those that are to be: %v, of %v", what, view.Changed(want, p), view.Changed(p, want))
	}
}

// tells holds a call's error, itself, against what it is to be.
func tells(t *testing.T, what string, err, want error) {
	t.Helper()
	if !errors.Is(err, want) || want == nil && err != nil {
		t.Errorf("%s: %v, want %v", what, err, want)
	}
	if c, ok := err.(api.Code); err != nil && (!ok || c != want) {
		t.Errorf("%s: %v isn't the Code itself", what, err)
	}
}

// leads holds what an address is looked up to, and that no word is changed by that.
func leads(t *testing.T, what string, p view.Plain, root api.Cap, addr, slot int, want error) {
	t.Helper()
	before := slices.Clone(p)
	n, err := Lookup(p, root, addr)
	if n != slot {
		t.Errorf("%s: address %d of %v: slot %d, want %d", what, addr, root, n, slot)
	}
	tells(t, what, err, want)
	stays(t, what, p, before)
}

// someCaps are capabilities that may be, of each kind, with the edges of their parts.
var someCaps = []api.Cap{
	{},
	{Kind: api.Untyped},
	{Kind: api.Untyped, Rights: api.CanAll, Obj: 31},
	{Kind: api.CNode, Obj: 1},
	{Kind: api.CNode, Rights: api.CanRead, Obj: 31, Bits: 8, Guard: 255},
	{Kind: api.CNode, Rights: api.CanWrite, Obj: 2, Bits: 8},
	{Kind: api.CNode, Rights: api.CanGrant, Bits: 1, Guard: 1},
	{Kind: api.Endpoint, Rights: api.CanAll, Obj: 1},
	{Kind: api.Endpoint, Rights: 5, Obj: 16, Badge: 65535},
	{Kind: api.Ntfn, Rights: api.CanWrite, Badge: 1},
	{Kind: api.Thread, Rights: api.CanAll, Obj: 7},
	{Kind: api.Frame, Rights: 3, Obj: 30},
	{Kind: api.Space, Obj: 3},
	{Kind: api.Irq, Rights: api.CanAll, Obj: 31},
}

// noCaps are capabilities that may not be; as words, some are like others.
var noCaps = []api.Cap{
	{Kind: -1}, {Kind: 9}, {Kind: 16}, {Kind: math.MaxInt}, {Kind: math.MinInt},
	{Rights: 1}, {Obj: 1}, {Badge: 1}, {Bits: 1}, {Guard: 1},
	{Kind: api.Frame, Rights: -1}, {Kind: api.Frame, Rights: 8}, {Kind: api.Frame, Rights: math.MinInt},
	{Kind: api.Frame, Obj: -1}, {Kind: api.Frame, Obj: 32}, {Kind: api.Frame, Obj: math.MaxInt},
	{Kind: api.Frame, Badge: 1}, {Kind: api.CNode, Badge: 1}, {Kind: api.Untyped, Badge: 65535},
	{Kind: api.Endpoint, Badge: -1}, {Kind: api.Endpoint, Badge: 65536}, {Kind: api.Ntfn, Badge: 65536},
	{Kind: api.CNode, Bits: -1}, {Kind: api.CNode, Bits: 9}, {Kind: api.CNode, Bits: 64}, {Kind: api.CNode, Bits: math.MinInt},
	{Kind: api.CNode, Guard: 1}, {Kind: api.CNode, Bits: 8, Guard: 256}, {Kind: api.CNode, Bits: 8, Guard: -1},
	{Kind: api.Endpoint, Bits: 1}, {Kind: api.Endpoint, Bits: 1, Guard: 1},
}

// The chapter's example: behind a guard of 12 bits an index of 4 needs two CNodes.
func TestExample(t *testing.T) {
	p := filled()
	isCNode(p, 0, 80, 0)
	isCNode(p, 1, 16, 4)
	holds(p, 80, cnode(1, 0xB, 4))
	for i := range 16 {
		leads(t, "two CNodes", p, cnode(0, 0x5A, 8), 0x5AB0+i, 16+i, nil)
		leads(t, "one alone, of 12 bits", p, cnode(1, 0x5AB, 12), 0x5AB0+i, 0, api.ErrArg)
		leads(t, "one alone, of 8 bits", p, cnode(1, 0x5A, 8), 0x5AB0+i, 0, api.ErrDepth)
	}
	leads(t, "another first guard", p, cnode(0, 0x5A, 8), 0x5BB0, 0, api.ErrGuard)
	leads(t, "another second one", p, cnode(0, 0x5A, 8), 0x5AA0, 0, api.ErrGuard)
}

// P11.1: what a slot has is told, and put, of each slot, each kind.
func TestCapAndSet(t *testing.T) {
	for _, slot := range []int{0, 1, 47, 94, 95} {
		p := filled()
		for _, c := range someCaps {
			want := slices.Clone(p)
			want[5*slot] = wordOf(c)
			tells(t, "Set", Set(p, slot, c), nil)
			stays(t, "Set", p, want)
			if got := Cap(p, slot); got != c {
				t.Errorf("slot %d has %v, want %v", slot, got, c)
			}
			stays(t, "Cap", p, want)
		}
	}
}

// P11.1: each slot has one of its own.
func TestAllSlots(t *testing.T) {
	p := filled()
	c := func(i int) api.Cap { return api.Cap{Kind: api.Ntfn, Rights: i % 8, Obj: i % 32, Badge: 600 * i} }
	for i := range 96 {
		tells(t, "each slot", Set(p, i, c(i)), nil)
	}
	for i := range 96 {
		if got := Cap(p, i); got != c(i) {
			t.Errorf("slot %d has %v, want %v", i, got, c(i))
		}
	}
	tells(t, "a Null one", Set(p, 95, api.Cap{}), nil)
	tells(t, "a Null one", Set(p, 0, api.Cap{}), nil)
	if p[5*95] != 0 || p[0] != 0 {
		t.Errorf("a Null one's words: %d, %d", p[5*95], p[0])
	}
}

// P11.1, P1 of the whole: a word that is no capability's counts as a Null one;
// a capability is set over it.
func TestCapOfNoWord(t *testing.T) {
	ep := api.Cap{Kind: api.Endpoint, Rights: api.CanAll, Obj: 1}
	for _, w := range []uint64{9, 10, 15, 16, 1 << 7, 1 << 12, 1 << 28, 1 << 32, wordOf(ep) | 1<<28, wordOf(ep) | 1<<32,
		wordOf(api.Cap{Kind: api.Frame, Badge: 1}), wordOf(api.Cap{Kind: api.CNode, Bits: 9}),
		wordOf(api.Cap{Kind: api.CNode, Guard: 1}), wordOf(api.Cap{Kind: api.CNode, Bits: 8, Guard: 256}),
		wordOf(ep) | 1<<40, wordOf(ep) | 1<<63, 1 << 40, 1 << 62, 1<<62 + 1, 1 << 63, math.MaxUint64 - 1, math.MaxUint64} {
		for _, slot := range []int{0, 1, 95} {
			p := filled()
			p[5*slot] = w
			before := slices.Clone(p)
			if c := Cap(p, slot); c != (api.Cap{}) {
				t.Errorf("of word %d: %v", w, c)
			}
			stays(t, "Cap", p, before)
			tells(t, "Set over it", Set(p, slot, ep), nil)
			if c := Cap(p, slot); c != ep {
				t.Errorf("over word %d: %v", w, c)
			}
		}
	}
}

// P11.1, R1, R3, P1 of the whole: where there is no slot, nothing is told or set,
// ahead of what may not be.
func TestNoSlot(t *testing.T) {
	p := append(filled(), filled()...)
	for i := range 96 {
		holds(p, i, cnode(i%32, 3, 2))
	}
	before := slices.Clone(p)
	for _, no := range noSlots {
		if c := Cap(p, no); c != (api.Cap{}) {
			t.Errorf("slot %d has %v", no, c)
		}
		for _, c := range append(slices.Clone(someCaps), noCaps...) {
			tells(t, "no slot", Set(p, no, c), api.ErrNone)
		}
	}
	stays(t, "no slot", p, before)
}

// P11.1, R3: what may not be isn't set.
func TestSetArg(t *testing.T) {
	p := filled()
	holds(p, 0, cnode(1, 0, 0))
	p[5*95] = 99
	before := slices.Clone(p)
	for _, c := range noCaps {
		for _, slot := range []int{0, 1, 95} {
			tells(t, "what may not be", Set(p, slot, c), api.ErrArg)
		}
	}
	stays(t, "what may not be", p, before)
}

// fine holds whether a capability is to be a fine CNode's.
func fine(t *testing.T, what string, p view.Plain, c api.Cap, want bool) {
	t.Helper()
	before := slices.Clone(p)
	if Fine(p, c) != want {
		t.Errorf("%s: %v is to be fine: %v", what, c, want)
	}
	stays(t, what, p, before)
	// What isn't fine isn't looked up in; what is has an index 0 at least, or lacks bits.
	_, err := Lookup(p, c, 0)
	if errors.Is(err, api.ErrType) == want {
		t.Errorf("%s: looked up in %v: %v", what, c, err)
	}
}

// P11.1: a capability of another Kind is no CNode.
func TestFineKind(t *testing.T) {
	p := filled()
	isCNode(p, 3, 10, 2)
	for _, k := range []int{-1, 0, 1, 3, 4, 5, 6, 7, 8, 9, 18, 1 << 32, 1<<32 + 2, math.MaxInt, math.MinInt} {
		fine(t, "of another Kind", p, api.Cap{Kind: k, Rights: api.CanAll, Obj: 3}, false)
	}
	fine(t, "a CNode", p, cnode(3, 0, 0), true)
}

// P11.1: what a capability may be, its guard and its rights beside, isn't asked of
// one that is fine.
func TestFineAlone(t *testing.T) {
	p := filled()
	isCNode(p, 3, 10, 2)
	for _, c := range []api.Cap{{}, {Rights: 7}, {Rights: -1}, {Rights: 8}, {Badge: 5}, {Bits: 8, Guard: 255}, {Bits: 9}, {Bits: -1}, {Guard: 1}} {
		c.Kind, c.Obj = api.CNode, 3
		fine(t, "of any guard and rights", p, c, true)
	}
}

// P11.1: its object is there, and a CNode object.
func TestFineObject(t *testing.T) {
	for _, obj := range []int{0, 1, 30, 31} {
		p := filled()
		isCNode(p, obj, 10, 2)
		fine(t, "a CNode object", p, cnode(obj, 0, 0), true)
		fine(t, "its neighbour", p, cnode(obj^1, 0, 0), false)
		for _, k := range []uint64{0, 1, 3, 4, 5, 6, 7, 8, 9, 18, 1<<32 + 2, 1 << 62, 1<<63 + 2, math.MaxUint64} {
			p[objsAt+objWords*obj] = k
			fine(t, "an object of another kind", p, cnode(obj, 0, 0), false)
		}
	}
	p := append(filled(), filled()...)
	for i := range 32 {
		isCNode(p, i, 10, 2)
	}
	copy(p[objsAt+objWords*32:], []uint64{2, 10, 2})
	for _, no := range noObjs {
		fine(t, "no object", p, cnode(no, 0, 0), false)
	}
}

// P11.1: its radix is 0 to 5, as lay.Field tells it.
func TestFineRadix(t *testing.T) {
	p := filled()
	for radix := range 6 {
		isCNode(p, 3, 10, uint64(radix))
		fine(t, "a radix of 0 to 5", p, cnode(3, 0, 0), true)
	}
	for _, w := range []uint64{6, 7, 8, 63, 64, 65, 1 << 8, 1 << 16, 1 << 32, 1<<32 + 1, 1<<62 - 1, 1 << 62} {
		for _, first := range []uint64{0, 10, 95} {
			isCNode(p, 3, first, w)
			fine(t, "a radix above 5", p, cnode(3, 0, 0), false)
		}
	}
	for _, w := range []uint64{1<<62 + 1, 1<<62 + 6, 1<<63 - 1, 1 << 63, 1<<63 + 6, math.MaxUint64} {
		isCNode(p, 3, 10, w)
		fine(t, "a radix above 2^62 is 0", p, cnode(3, 0, 0), true)
		leads(t, "a radix above 2^62 is 0", p, cnode(3, 0, 8), 0, 0, api.ErrDepth)
		holds(p, 10, cnode(3, 0, 8))
		leads(t, "a radix above 2^62 is 0", p, cnode(3, 0, 8), 0, 10, nil)
		holds(p, 10, api.Cap{})
	}
}

// P11.1: all of its slots are there, from the first on, as lay.Field tells it.
func TestFineSlots(t *testing.T) {
	p := filled()
	for radix, last := range []uint64{95, 94, 92, 88, 80, 64} {
		for _, first := range []uint64{0, 1, last - 1, last} {
			isCNode(p, 3, first, uint64(radix))
			fine(t, "all are there", p, cnode(3, 0, 0), true)
		}
		for _, first := range []uint64{last + 1, last + 2, 95 + 1, 97, 480, 1 << 16, 1 << 32, 1<<32 + 1, 1<<62 - 32, 1<<62 - 1, 1 << 62} {
			isCNode(p, 3, first, uint64(radix))
			fine(t, "the last one isn't there", p, cnode(3, 0, 0), false)
		}
		for _, first := range []uint64{1<<62 + 1, 1<<63 - 32, 1<<63 - 1, 1 << 63, math.MaxUint64 - 31, math.MaxUint64} {
			isCNode(p, 3, first, uint64(radix))
			fine(t, "a first slot above 2^62 is 0", p, cnode(3, 0, 0), true)
		}
	}
	// None of them need be used.
	p[736], p[737] = 0, 0
	isCNode(p, 31, 64, 5)
	fine(t, "none is used", p, cnode(31, 0, 0), true)
}

// twoSteps are words of a CNode of 8 slots from 16 on (object 1), of one of 32
// slots from 64 on (object 2), of one of a single slot, 5 (object 3), and of an
// Endpoint (object 4). What the first one's slots have is told by who asks.
func twoSteps() view.Plain {
	p := filled()
	isCNode(p, 1, 16, 3)
	isCNode(p, 2, 64, 5)
	isCNode(p, 3, 5, 0)
	copy(p[objsAt+objWords*4:], []uint64{api.Endpoint})
	return p
}

// P11.2: addresses of one step, and of two; each index of both.
func TestLookup(t *testing.T) {
	p := twoSteps()
	isCNode(p, 5, 0, 5)
	for i := range 8 {
		holds(p, 16+i, cnode(2, i, 8))
	}
	for i := range 8 {
		for j := range 32 {
			leads(t, "two steps", p, cnode(1, 0, 0), i<<13|i<<5|j, 64+j, nil)
		}
		leads(t, "the second guard", p, cnode(1, 0, 0), i<<13|(i+1)%8<<5, 0, api.ErrGuard)
		leads(t, "the second guard", p, cnode(1, 0, 0), i<<13|(128+i)<<5, 0, api.ErrGuard)
	}
	// A guard and a radix are at most 13 bits: no single step takes all 16.
	leads(t, "one step, 3 left", p, cnode(5, 0xC5, 8), 0xC500, 0, api.ErrDepth)
	holds(p, 31, cnode(1, 0, 0))
	leads(t, "a second one of 3", p, cnode(5, 0xC5, 8), 0xC5FF, 23, nil)
	leads(t, "a second one of 3", p, cnode(5, 0xC5, 8), 0xC5F8, 16, nil)
	leads(t, "at another index", p, cnode(5, 0xC5, 8), 0xC5F0, 0, api.ErrDepth)
}

// P11.2, R3: addresses at the ends, and beyond.
func TestLookupAddress(t *testing.T) {
	p := twoSteps()
	holds(p, 16, cnode(2, 0, 8))
	holds(p, 23, cnode(2, 255, 8))
	leads(t, "the first address", p, cnode(1, 0, 0), 0, 64, nil)
	leads(t, "the next one", p, cnode(1, 0, 0), 1, 65, nil)
	leads(t, "the last one", p, cnode(1, 0, 0), 65535, 95, nil)
	leads(t, "the last but one", p, cnode(1, 0, 0), 65534, 94, nil)
	for _, addr := range []int{-1, -2, -65536, 65536, 65537, 131071, 1 << 32, 1<<32 + 1, 1 << 62,
		math.MaxInt - 1, math.MaxInt, math.MinInt, math.MinInt + 1} {
		for _, root := range []api.Cap{cnode(1, 0, 0), cnode(1, 0, 9), cnode(1, 1, 1), cnode(4, 0, 0), cnode(32, 0, 0), {}, {Kind: 9}} {
			leads(t, "no address", p, root, addr, 0, api.ErrArg)
		}
	}
}

// P11.2, R1, R3: what isn't a CNode that is fine is no root, ahead of what its
// guard may be.
func TestLookupRoot(t *testing.T) {
	p := twoSteps()
	isCNode(p, 5, 89, 3)
	isCNode(p, 6, 0, 6)
	holds(p, 16, cnode(2, 0, 8))
	for _, bits := range []int{0, 8, 9, -1} {
		for _, addr := range []int{0, 1, 65535} {
			for _, obj := range []int{4, 5, 6, 7, -1, 32, math.MaxInt, math.MinInt} {
				leads(t, "of no fine CNode", p, cnode(obj, 0, bits), addr, 0, api.ErrType)
			}
			for _, k := range []int{-1, 0, 1, 3, 4, 5, 6, 7, 8, 9} {
				leads(t, "of another Kind", p, api.Cap{Kind: k, Obj: 1, Bits: bits}, addr, 0, api.ErrType)
			}
		}
	}
}

// P11.2, R1, R3: the first CNode's guard: none, of 8 bits, another one, what may
// be none, more bits than there are.
func TestLookupGuard(t *testing.T) {
	p := twoSteps()
	isCNode(p, 5, 0, 5)
	holds(p, 16, cnode(5, 0, 0))
	holds(p, 17, cnode(5, 0, 1))
	leads(t, "of 8 bits", p, cnode(1, 0xA5, 8), 0xA500, 0, nil)
	leads(t, "of 8 bits", p, cnode(1, 0xA5, 8), 0xA51F, 31, nil)
	leads(t, "of 8 bits, more than are left behind it", p, cnode(1, 0xA5, 8), 0xA520, 0, api.ErrDepth)
	leads(t, "of 8 bits, with index 2", p, cnode(1, 0xA5, 8), 0xA540, 0, api.ErrDepth)
	for _, addr := range []int{0x2500, 0xA400, 0xA700, 0x0000, 0xFFFF} {
		leads(t, "another one", p, cnode(1, 0xA5, 8), addr, 0, api.ErrGuard)
	}
	leads(t, "of 1 bit", p, cnode(1, 1, 1), 0x7FFF, 0, api.ErrGuard)
	leads(t, "of 1 bit", p, cnode(1, 0, 1), 0x8000, 0, api.ErrGuard)
	for _, g := range [][2]int{{0, -1}, {0, 9}, {0, 64}, {1, 0}, {-1, 0}, {256, 8}, {2, 1}, {-1, 8}, {0, math.MinInt}, {math.MaxInt, 8}} {
		for _, addr := range []int{0, 65535} {
			leads(t, "none that may be", p, cnode(1, g[0], g[1]), addr, 0, api.ErrArg)
		}
	}
}

// P11.2: of a later CNode's guard and radix more bits than are left are ErrDepth,
// ahead of another guard; just as many are found, or ErrGuard.
func TestLookupLeft(t *testing.T) {
	for _, x := range []struct {
		bits, guard, left int // of object 2, radix 5
		want              error
		slot              int
	}{
		{8, 0, 13, nil, 64}, {8, 1, 13, api.ErrGuard, 0}, {8, 0, 12, api.ErrDepth, 0}, {8, 1, 12, api.ErrDepth, 0},
		{7, 0, 12, nil, 64}, {7, 127, 12, api.ErrGuard, 0}, {7, 127, 11, api.ErrDepth, 0},
		{0, 0, 5, nil, 64}, {0, 0, 4, api.ErrDepth, 0}, {0, 0, 3, api.ErrDepth, 0},
		{1, 0, 6, nil, 64}, {1, 1, 6, api.ErrGuard, 0}, {1, 1, 5, api.ErrDepth, 0}, {1, 0, 5, api.ErrDepth, 0},
		{6, 0, 12, api.ErrDepth, 0}, {8, 0, 14, api.ErrDepth, 0}, {8, 0, 15, api.ErrDepth, 0},
	} {
		// Two CNodes of radix 0 take the bits ahead of it.
		p := twoSteps()
		isCNode(p, 5, 6, 0)
		first := min(8, 16-x.left)
		holds(p, 5, cnode(5, 0, 16-x.left-first))
		holds(p, 6, cnode(2, x.guard, x.bits))
		leads(t, "of so many left", p, cnode(3, 0, first), 0, x.slot, x.want)
	}
}

// P11.2: bits are left at a slot that has no CNode's capability, or not a fine one's.
func TestLookupOn(t *testing.T) {
	p := twoSteps()
	isCNode(p, 6, 89, 3)
	isCNode(p, 7, 0, 6)
	for _, c := range append(slices.Clone(someCaps), cnode(4, 0, 0), cnode(6, 0, 0), cnode(7, 0, 0), cnode(8, 0, 0),
		api.Cap{Kind: api.Endpoint, Rights: api.CanAll, Obj: 2}, api.Cap{Kind: api.Thread, Obj: 2}) {
		if c.Kind == api.CNode && (c.Obj == 1 || c.Obj == 2) {
			continue
		}
		holds(p, 18, c)
		leads(t, "no CNode", p, cnode(1, 0, 0), 2<<13, 0, api.ErrDepth)
		leads(t, "no CNode", p, cnode(1, 0, 0), 2<<13|1, 0, api.ErrDepth)
	}
	for _, w := range []uint64{9, 2 | 1<<12, wordOf(cnode(2, 0, 8)) | 1<<40, wordOf(cnode(2, 0, 8)) | 1<<63, math.MaxUint64} {
		p[5*18] = w
		leads(t, "no capability's word", p, cnode(1, 0, 0), 2<<13, 0, api.ErrDepth)
	}
	// What it has doesn't matter, if no bits are left.
	holds(p, 18, cnode(2, 0, 8))
	for _, w := range []uint64{0, 9, wordOf(cnode(1, 0, 0)), wordOf(cnode(4, 0, 0)), math.MaxUint64} {
		p[5*64] = w
		leads(t, "no bits are left", p, cnode(1, 0, 0), 2<<13, 64, nil)
	}
}

// chain are words of CNodes of radix 0, one slot each, from slot 0 on, each
// behind a guard of as many zeros; the first one's capability is told.
func chain(bits ...int) (view.Plain, api.Cap) {
	p := filled()
	for i, b := range bits {
		isCNode(p, i, uint64(i), 0)
		if i > 0 {
			holds(p, i-1, cnode(i, 0, b))
		}
	}
	return p, cnode(0, 0, bits[0])
}

// P11.2: 16 times at most.
func TestLookupTimes(t *testing.T) {
	ones := func(n int) []int { return slices.Repeat([]int{1}, n) }
	nones := func(n int, l ...int) []int { return append(make([]int, n), l...) }
	for _, x := range []struct {
		what string
		bits []int
		want error
	}{
		{"two", []int{8, 8}, nil},
		{"fourteen of none, ahead of two", nones(14, 8, 8), nil},
		{"fifteen of none, ahead of two", nones(15, 8, 8), api.ErrDepth},
		{"twenty of none, ahead of two", nones(20, 8, 8), api.ErrDepth},
		{"sixteen of one", ones(16), nil},
		{"fifteen of one", ones(15), api.ErrDepth},
		{"one of none, sixteen of one", nones(1, ones(16)...), api.ErrDepth},
		{"one of none, fourteen of one, one of two", nones(1, append(ones(14), 2)...), nil},
		{"one of two in seventeen", append([]int{0, 0}, append(ones(14), 2)...), api.ErrDepth},
		{"thirteen of none between two", append(append([]int{8}, nones(14)...), 8), nil},
		{"fourteen of none between two", append(append([]int{8}, nones(15)...), 8), api.ErrDepth},
	} {
		p, root := chain(x.bits...)
		slot := 0
		if x.want == nil {
			slot = len(x.bits) - 1
		}
		leads(t, x.what, p, root, 0, slot, x.want)
	}
	p, root := chain(ones(16)...)
	for i := range 16 {
		leads(t, "another bit", p, root, 1<<i, 0, api.ErrGuard)
	}
}

// P11.2, P1 of the whole: a CNode that leads to itself.
func TestLookupCircles(t *testing.T) {
	p := filled()
	isCNode(p, 3, 7, 0)
	holds(p, 7, cnode(3, 0, 0))
	for _, addr := range []int{0, 1, 65535} {
		leads(t, "by no bits", p, cnode(3, 0, 0), addr, 0, api.ErrDepth)
		leads(t, "by no bits, behind some", p, cnode(3, addr>>8, 8), addr, 0, api.ErrDepth)
	}
	for bits, found := range []bool{1: true, 2: true, 3: false, 4: true, 5: false, 6: false, 7: false, 8: true} {
		if bits == 0 {
			continue
		}
		holds(p, 7, cnode(3, 1, bits))
		addr := 0
		for n := bits; n <= 16; n += bits {
			addr |= 1 << (16 - n)
		}
		if found {
			leads(t, "by its guard", p, cnode(3, 1, bits), addr, 7, nil)
		} else {
			leads(t, "by its guard", p, cnode(3, 1, bits), addr, 0, api.ErrDepth)
		}
		leads(t, "by another one", p, cnode(3, 1, bits), addr&^(1<<(16-2*bits)), 0, api.ErrGuard)
	}
	isCNode(p, 4, 8, 2)
	for i := range 4 {
		holds(p, 8+i, cnode(4, 0, 0))
	}
	for i := range 4 {
		leads(t, "by its index", p, cnode(4, 0, 0), 0xE4E4+i, 8+i, nil)
	}
}

// P11.2: a guard is of the capability, a radix of the object: by two capabilities
// of one CNode unlike addresses are looked up.
func TestLookupOfEach(t *testing.T) {
	p := twoSteps()
	holds(p, 16, cnode(2, 0x33, 8))
	holds(p, 17, cnode(2, 0x44, 8))
	for i := range 32 {
		leads(t, "by the one", p, cnode(1, 0, 0), 0x33<<5|i, 64+i, nil)
		leads(t, "by the other", p, cnode(1, 0, 0), 1<<13|0x44<<5|i, 64+i, nil)
		leads(t, "by the one's guard", p, cnode(1, 0, 0), 1<<13|0x33<<5|i, 0, api.ErrGuard)
	}
}

// P11.2: an address needs no rights, and no slot that is used.
func TestLookupRights(t *testing.T) {
	p := twoSteps()
	p[736], p[737] = 0, 0
	for rights := range 8 {
		c := cnode(2, 0, 8)
		c.Rights = rights
		holds(p, 16, c)
		root := cnode(1, 0, 0)
		root.Rights = rights
		leads(t, "of any rights", p, root, 9, 73, nil)
	}
	for _, rights := range []int{-1, 8, math.MaxInt} {
		leads(t, "a root of no such rights", p, api.Cap{Kind: api.CNode, Obj: 1, Rights: rights, Badge: 5}, 9, 73, nil)
	}
}
