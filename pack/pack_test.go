package pack

import (
	"math"
	"testing"

	"padstone/api"
)

// kinds are all that a capability may be of.
var kinds = []int{api.Null, api.Untyped, api.CNode, api.Endpoint, api.Ntfn, api.Thread,
	api.Frame, api.Space, api.Irq}

// stands holds a capability that may be, and its word, against all three calls.
func stands(t *testing.T, c api.Cap, w uint64) {
	t.Helper()
	if !May(c) {
		t.Errorf("May(%+v): false", c)
	}
	if got, err := Put(c); err != nil || got != w {
		t.Errorf("Put(%+v): %d, %v, want %d", c, got, err, w)
	}
	if got, err := Get(w); err != nil || got != c {
		t.Errorf("Get(%d): %+v, %v, want %+v", w, got, err, c)
	}
}

// falls holds one that may not be against May and Put: the Code itself, and 0.
func falls(t *testing.T, c api.Cap) {
	t.Helper()
	if May(c) {
		t.Errorf("May(%+v): true", c)
	}
	if w, err := Put(c); err != api.ErrArg || w != 0 {
		t.Errorf("Put(%+v): %d, %v, want 0, %v", c, w, err, api.ErrArg)
	}
}

// nobodys holds a word of none against Get: the Code itself, and nothing.
func nobodys(t *testing.T, w uint64) {
	t.Helper()
	if c, err := Get(w); err != api.ErrArg || c != (api.Cap{}) {
		t.Errorf("Get(%#x): %+v, %v, want nothing, %v", w, c, err, api.ErrArg)
	}
}

// P2.1: where each part lies in the word.
func TestParts(t *testing.T) {
	stands(t, api.Cap{}, 0)
	stands(t, api.Cap{Kind: api.Endpoint, Rights: api.CanAll, Obj: 1}, 243)
	stands(t, api.Cap{Kind: api.Untyped}, 1)
	stands(t, api.Cap{Kind: api.Irq}, 8)
	stands(t, api.Cap{Kind: api.Thread, Rights: api.CanRead}, 5+16)
	stands(t, api.Cap{Kind: api.Frame, Rights: api.CanGrant}, 6+64)
	stands(t, api.Cap{Kind: api.Space, Obj: 1}, 7+128)
	stands(t, api.Cap{Kind: api.Space, Obj: 16}, 7+2048)
	stands(t, api.Cap{Kind: api.Endpoint, Badge: 1}, 3+4096)
	stands(t, api.Cap{Kind: api.Ntfn, Badge: 32768}, 4+134217728)
	stands(t, api.Cap{Kind: api.CNode, Bits: 1}, 2+268435456)
	stands(t, api.Cap{Kind: api.CNode, Bits: 8}, 2+2147483648)
	stands(t, api.Cap{Kind: api.CNode, Bits: 1, Guard: 1}, 2+268435456+4294967296)
	stands(t, api.Cap{Kind: api.CNode, Bits: 8, Guard: 128}, 2+2147483648+549755813888)
	stands(t, api.Cap{Kind: api.CNode, Rights: 5, Obj: 21, Bits: 6, Guard: 0x2b}, 0x2b60000ad2)
	stands(t, api.Cap{Kind: api.Endpoint, Rights: 2, Obj: 10, Badge: 0xabcd}, 0xabcd523)
	stands(t, api.Cap{Kind: api.Ntfn, Rights: 7, Obj: 31, Badge: 65535}, 0xffffff4)
	stands(t, api.Cap{Kind: api.CNode, Rights: 7, Obj: 31, Bits: 8, Guard: 255}, 0xff80000ff2)
}

// P2.1: kinds 0 to 8, and no others.
func TestKinds(t *testing.T) {
	for i, kind := range kinds {
		stands(t, api.Cap{Kind: kind}, uint64(i))
	}
	for _, kind := range []int{9, 10, 15, 16, 17, 18, 1 << 32, 1<<32 + 3, math.MaxInt, -1,
		-8, -13, -16, math.MinInt} {
		for _, rest := range []api.Cap{{}, {Rights: 7}, {Obj: 1}, {Badge: 1}, {Bits: 1}} {
			rest.Kind = kind
			falls(t, rest)
		}
	}
	for w := uint64(9); w < 16; w++ {
		nobodys(t, w)
		nobodys(t, w+16)
		nobodys(t, w+128)
	}
}

// P2.1: of a Null one all is 0.
func TestNull(t *testing.T) {
	for _, c := range []api.Cap{{Rights: 1}, {Rights: 7}, {Rights: -1}, {Obj: 1}, {Obj: 31},
		{Obj: -1}, {Badge: 1}, {Badge: 65535}, {Badge: -1}, {Bits: 1}, {Bits: 8}, {Bits: -1},
		{Guard: 1}, {Guard: -1}, {Bits: 8, Guard: 255},
		{Rights: 7, Obj: 31, Badge: 65535, Bits: 8, Guard: 255}} {
		falls(t, c)
	}
	for bit := 4; bit < 64; bit++ {
		nobodys(t, 1<<bit)
	}
}

// P2.1: rights 0 to 7, objects 0 to 31, of each kind that isn't Null.
func TestRightsAndObjects(t *testing.T) {
	for _, kind := range kinds[1:] {
		for rights := range 8 {
			for obj := range 32 {
				w := uint64(kind + 16*rights + 128*obj)
				stands(t, api.Cap{Kind: kind, Rights: rights, Obj: obj}, w)
			}
		}
		for _, n := range []int{8, 9, 15, 16, 1 << 32, math.MaxInt, -1, -8, math.MinInt} {
			falls(t, api.Cap{Kind: kind, Rights: n})
		}
		for _, n := range []int{32, 33, 64, 1 << 32, math.MaxInt, -1, -32, math.MinInt} {
			falls(t, api.Cap{Kind: kind, Obj: n})
		}
	}
}

// P2.1: badges 0 to 65535, of an Endpoint, or an Ntfn, alone.
func TestBadges(t *testing.T) {
	for _, kind := range kinds {
		bears := kind == api.Endpoint || kind == api.Ntfn
		for _, n := range []int{1, 2, 255, 256, 32767, 32768, 65534, 65535} {
			c, w := api.Cap{Kind: kind, Badge: n}, uint64(kind+4096*n)
			if bears {
				stands(t, c, w)
			} else {
				falls(t, c)
				nobodys(t, w)
			}
		}
		for _, n := range []int{65536, 65537, 131072, 1 << 32, math.MaxInt, -1, -65536,
			math.MinInt} {
			falls(t, api.Cap{Kind: kind, Badge: n})
		}
	}
}

// P2.1: a CNode's guard has 0 to 8 bits, and is below 2 to the power of them.
func TestGuards(t *testing.T) {
	powers := []int{1, 2, 4, 8, 16, 32, 64, 128, 256}
	for bits, power := range powers {
		at := 2 + uint64(bits)*268435456
		for guard := range 256 {
			c, w := api.Cap{Kind: api.CNode, Bits: bits, Guard: guard}, at+uint64(guard)*4294967296
			if guard < power {
				stands(t, c, w)
			} else {
				falls(t, c)
				nobodys(t, w)
			}
		}
		for _, guard := range []int{256, 257, 1 << 32, math.MaxInt, -1, -256, math.MinInt} {
			falls(t, api.Cap{Kind: api.CNode, Bits: bits, Guard: guard})
		}
	}
	for _, bits := range []int{9, 10, 15, 16, 62, 63, 64, 65, 1 << 32, math.MaxInt, -1, -8,
		math.MinInt} {
		for _, guard := range []int{0, 1, 255, -1} {
			falls(t, api.Cap{Kind: api.CNode, Bits: bits, Guard: guard})
		}
	}
	for bits := uint64(9); bits < 16; bits++ {
		nobodys(t, 2+bits*268435456)
		nobodys(t, 2+bits*268435456+4294967296)
	}
}

// P2.1: what is no CNode has no guard, and no bits of one.
func TestGuardsOfOtherKinds(t *testing.T) {
	for _, kind := range kinds {
		if kind == api.CNode {
			continue
		}
		for bits := range 9 {
			for _, guard := range []int{0, 1, 128, 255, -1} {
				if bits == 0 && guard == 0 {
					continue
				}
				falls(t, api.Cap{Kind: kind, Bits: bits, Guard: guard})
				if guard > 0 {
					nobodys(t, uint64(kind)+uint64(bits)*268435456+uint64(guard)*4294967296)
				}
			}
			if bits > 0 {
				nobodys(t, uint64(kind)+uint64(bits)*268435456)
			}
		}
		falls(t, api.Cap{Kind: kind, Bits: -1})
	}
}

// P2.1: no word has a bit above the guard.
func TestBitsAboveGuard(t *testing.T) {
	for _, kind := range kinds {
		for bit := 40; bit < 64; bit++ {
			nobodys(t, uint64(kind)|1<<bit)
		}
		nobodys(t, uint64(kind)|0xffffff<<40)
	}
	full := uint64(0xff80000ff2)
	for bit := 40; bit < 64; bit++ {
		nobodys(t, full|1<<bit)
	}
	nobodys(t, math.MaxUint64)
}
