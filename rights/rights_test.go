package rights

import (
	"math"
	"testing"

	"padstone/api"
)

// kinds are all that a capability may be of, but Null.
var kinds = []int{api.Untyped, api.CNode, api.Endpoint, api.Ntfn, api.Thread, api.Frame,
	api.Space, api.Irq}

// badMasks are no masks.
var badMasks = []int{8, 9, 15, 16, 256, 1 << 32, 1<<32 + 7, math.MaxInt, -1, -7, -8, math.MinInt}

// badBadges are none that Mint may give.
var badBadges = []int{0, 65536, 65537, 131071, 1 << 32, 1<<32 + 1, math.MaxInt, -1, -65535,
	math.MinInt}

// nones are Null, and capabilities that may not be, each by another part.
var nones = []api.Cap{
	{}, {Rights: 7}, {Obj: 1}, {Badge: 1}, {Bits: 1}, {Bits: 8, Guard: 255}, {Kind: 9},
	{Kind: 16 + api.Endpoint, Rights: 7}, {Kind: -1}, {Kind: math.MaxInt}, {Kind: math.MinInt},
	{Kind: api.Endpoint, Rights: 8}, {Kind: api.Endpoint, Rights: -1}, {Kind: api.CNode, Rights: 15},
	{Kind: api.Endpoint, Obj: 32}, {Kind: api.Ntfn, Obj: -1}, {Kind: api.CNode, Obj: 32},
	{Kind: api.Endpoint, Badge: 65536}, {Kind: api.Ntfn, Badge: -1}, {Kind: api.Frame, Badge: 1},
	{Kind: api.CNode, Badge: 1}, {Kind: api.Untyped, Rights: 8}, {Kind: api.Untyped, Badge: 1},
	{Kind: api.CNode, Guard: 1}, {Kind: api.CNode, Bits: 9}, {Kind: api.CNode, Bits: -1},
	{Kind: api.CNode, Bits: 2, Guard: 4}, {Kind: api.CNode, Bits: 2, Guard: -1},
	{Kind: api.Endpoint, Bits: 1}, {Kind: api.Ntfn, Guard: 1}, {Kind: api.Thread, Bits: 1},
}

// gives holds what a call told against the capability that it is to tell.
func gives(t *testing.T, what string, want api.Cap) func(api.Cap, error) {
	t.Helper()
	return func(c api.Cap, err error) {
		t.Helper()
		if err != nil || c != want {
			t.Errorf("%s: %+v, %v, want %+v", what, c, err, want)
		}
	}
}

// refuses holds it against an error: the Code itself, and nothing beside it.
func refuses(t *testing.T, what string, want error) func(api.Cap, error) {
	t.Helper()
	return func(c api.Cap, err error) {
		t.Helper()
		if err != want || c != (api.Cap{}) {
			t.Errorf("%s: %+v, %v, want nothing, %v", what, c, err, want)
		}
	}
}

// P3.1: all rights of a need, by what they are called.
func TestHas(t *testing.T) {
	const r, w, g = api.CanRead, api.CanWrite, api.CanGrant
	meets := [8][]int{
		0: {0}, r: {0, r}, w: {0, w}, r | w: {0, r, w, r | w}, g: {0, g}, r | g: {0, r, g, r | g},
		w | g: {0, w, g, w | g}, api.CanAll: {0, 1, 2, 3, 4, 5, 6, 7},
	}
	for rights, needs := range meets {
		var want [8]bool
		for _, need := range needs {
			want[need] = true
		}
		for _, kind := range kinds {
			for need, want := range want {
				if got := Has(api.Cap{Kind: kind, Rights: rights, Obj: 3}, need); got != want {
					t.Errorf("Has of kind %d, rights %d, need %d: %v", kind, rights, need, got)
				}
			}
		}
	}
	if !Has(api.Cap{}, 0) || Has(api.Cap{}, api.CanRead) {
		t.Error("Has of Null")
	}
}

// P3.1: rights alone count, not what else a capability bears.
func TestHasRightsAlone(t *testing.T) {
	for _, c := range []api.Cap{{Kind: api.Ntfn, Obj: 31, Badge: 65535},
		{Kind: api.CNode, Obj: 7, Bits: 8, Guard: 255}} {
		if !Has(c, 0) || Has(c, 1) || Has(c, 2) || Has(c, 4) || Has(c, 7) {
			t.Errorf("Has of %+v", c)
		}
	}
}

// P3.1: above 7, and below 0, there is something in a need that nobody has.
func TestHasOfNoRights(t *testing.T) {
	for _, need := range []int{8, 9, 15, 16, 64, 1 << 31, 1 << 32, 1<<32 + 1, math.MaxInt,
		-1, -7, -8, math.MinInt} {
		for rights := range 8 {
			if Has(api.Cap{Kind: api.Endpoint, Rights: rights}, need) {
				t.Errorf("Has of rights %d, need %d", rights, need)
			}
		}
	}
}

// P3.1: what a capability is within, and what it isn't.
func TestWithin(t *testing.T) {
	ep := api.Cap{Kind: api.Endpoint, Rights: 6, Obj: 2}
	badged := api.Cap{Kind: api.Endpoint, Rights: 6, Obj: 2, Badge: 5}
	node := api.Cap{Kind: api.CNode, Rights: 1}
	guarded := api.Cap{Kind: api.CNode, Rights: 1, Bits: 2, Guard: 3}
	memory := api.Cap{Kind: api.Untyped, Rights: 7, Obj: 4}
	for _, x := range []struct {
		what string
		a, b api.Cap
		want bool
	}{
		{"itself", ep, ep, true},
		{"itself, with a badge", badged, badged, true},
		{"another kind", api.Cap{Kind: api.Ntfn, Rights: 6, Obj: 2}, ep, false},
		{"another object", api.Cap{Kind: api.Endpoint, Rights: 6, Obj: 3}, ep, false},
		{"another object, below", api.Cap{Kind: api.Endpoint, Rights: 6, Obj: 1}, ep, false},
		{"a right less", api.Cap{Kind: api.Endpoint, Rights: 4, Obj: 2}, ep, true},
		{"no rights", api.Cap{Kind: api.Endpoint, Obj: 2}, ep, true},
		{"a right more", api.Cap{Kind: api.Endpoint, Rights: 7, Obj: 2}, ep, false},
		{"another right, of a lower number", api.Cap{Kind: api.Endpoint, Rights: 1, Obj: 2}, ep, false},
		{"a badge where it has none", badged, ep, true},
		{"no badge where it has one", ep, badged, false},
		{"another badge", api.Cap{Kind: api.Endpoint, Rights: 6, Obj: 2, Badge: 4}, badged, false},
		{"a badge of more bits", api.Cap{Kind: api.Endpoint, Rights: 6, Obj: 2, Badge: 7}, badged, false},
		{"a badge, and a right more", api.Cap{Kind: api.Endpoint, Rights: 7, Obj: 2, Badge: 5}, ep, false},
		{"a badge, and a right less", api.Cap{Kind: api.Endpoint, Rights: 2, Obj: 2, Badge: 5}, badged, true},
		{"its badge, another object", api.Cap{Kind: api.Endpoint, Rights: 6, Obj: 3, Badge: 5}, badged, false},
		{"another guard", guarded, node, true},
		{"no guard", node, guarded, true},
		{"Untyped memory", api.Cap{Kind: api.Untyped, Rights: 3, Obj: 4}, memory, true},
		{"Null of Null", api.Cap{}, api.Cap{}, true},
		{"Null of one", api.Cap{}, api.Cap{Kind: api.Untyped}, false},
		{"one of Null", api.Cap{Kind: api.Untyped}, api.Cap{}, false},
	} {
		if got := Within(x.a, x.b); got != x.want {
			t.Errorf("%s: %+v within %+v: %v", x.what, x.a, x.b, got)
		}
	}
}

// P3.2: rights that both have, all else as it was, of each kind but Untyped, and Null.
func TestDerive(t *testing.T) {
	both := [8][8]int{
		{}, {0, 1, 0, 1, 0, 1, 0, 1}, {0, 0, 2, 2, 0, 0, 2, 2}, {0, 1, 2, 3, 0, 1, 2, 3},
		{0, 0, 0, 0, 4, 4, 4, 4}, {0, 1, 0, 1, 4, 5, 4, 5}, {0, 0, 2, 2, 4, 4, 6, 6},
		{0, 1, 2, 3, 4, 5, 6, 7},
	}
	for rights, row := range both {
		for mask, want := range row {
			l := []api.Cap{{Kind: api.Endpoint, Badge: 65535}, {Kind: api.Ntfn, Obj: 1, Badge: 1},
				{Kind: api.CNode, Obj: 9, Bits: 8, Guard: 255}}
			for _, kind := range kinds[1:] {
				l = append(l, api.Cap{Kind: kind, Obj: 31})
			}
			for _, c := range l {
				from, to := c, c
				from.Rights, to.Rights = rights, want
				gives(t, "Derive", to)(Derive(from, mask))
			}
		}
	}
}

// P3.2, R1, R3: what Derive refuses, and which error comes first.
func TestDeriveErrors(t *testing.T) {
	for _, mask := range badMasks {
		for _, kind := range kinds {
			c := api.Cap{Kind: kind, Rights: 7, Obj: 1}
			refuses(t, "Derive by no mask", api.ErrArg)(Derive(c, mask))
		}
	}
	for _, c := range nones {
		for _, mask := range append([]int{0, 1, 7}, badMasks...) {
			refuses(t, "Derive of none", api.ErrArg)(Derive(c, mask))
		}
	}
	for mask := range 8 {
		for rights := range 8 {
			c := api.Cap{Kind: api.Untyped, Rights: rights, Obj: 5}
			refuses(t, "Derive of memory", api.ErrType)(Derive(c, mask))
		}
	}
}

// P3.2: Mint gives a badge, and the rights that both have.
func TestMint(t *testing.T) {
	for _, kind := range []int{api.Endpoint, api.Ntfn} {
		for _, badge := range []int{1, 2, 255, 256, 32768, 65534, 65535} {
			gives(t, "Mint by mask 0", api.Cap{Kind: kind, Obj: 2, Badge: badge})(
				Mint(api.Cap{Kind: kind, Rights: 7, Obj: 2}, 0, badge))
			gives(t, "Mint by mask 3", api.Cap{Kind: kind, Rights: 2, Obj: 31, Badge: badge})(
				Mint(api.Cap{Kind: kind, Rights: 6, Obj: 31}, 3, badge))
			gives(t, "Mint by mask 7", api.Cap{Kind: kind, Rights: 5, Badge: badge})(
				Mint(api.Cap{Kind: kind, Rights: 5}, 7, badge))
		}
	}
}

// P3.2, R1, R3: what Mint refuses of one that it could mint.
func TestMintErrors(t *testing.T) {
	for _, kind := range []int{api.Endpoint, api.Ntfn} {
		fresh := api.Cap{Kind: kind, Rights: 7, Obj: 2}
		badged := api.Cap{Kind: kind, Rights: 7, Obj: 2, Badge: 5}
		for _, badge := range badBadges {
			refuses(t, "Mint of no badge", api.ErrArg)(Mint(fresh, 7, badge))
			refuses(t, "Mint of no badge, of one with a badge", api.ErrArg)(Mint(badged, 7, badge))
			refuses(t, "Mint of no badge, by no mask", api.ErrArg)(Mint(fresh, 8, badge))
		}
		for _, mask := range badMasks {
			refuses(t, "Mint by no mask", api.ErrArg)(Mint(fresh, mask, 1))
			refuses(t, "Mint by no mask, of one with a badge", api.ErrArg)(Mint(badged, mask, 1))
		}
		for _, badge := range []int{1, 5, 6, 65535} {
			refuses(t, "Mint of one with a badge", api.ErrState)(Mint(badged, 7, badge))
		}
		m, err := Mint(fresh, 7, 65535)
		gives(t, "Mint", api.Cap{Kind: kind, Rights: 7, Obj: 2, Badge: 65535})(m, err)
		refuses(t, "Mint twice", api.ErrState)(Mint(m, 7, 1))
		refuses(t, "Mint twice, of the same badge", api.ErrState)(Mint(m, 0, 65535))
	}
}

// P3.2, R1, R3: of which kinds Mint refuses all.
func TestMintOfOtherKinds(t *testing.T) {
	for _, kind := range kinds {
		if kind == api.Endpoint || kind == api.Ntfn {
			continue
		}
		c := api.Cap{Kind: kind, Rights: 7, Obj: 2}
		refuses(t, "Mint of another kind", api.ErrType)(Mint(c, 7, 1))
		refuses(t, "Mint of another kind, mask 0", api.ErrType)(Mint(c, 0, 65535))
		for _, mask := range badMasks {
			refuses(t, "Mint of another kind, by no mask", api.ErrArg)(Mint(c, mask, 1))
		}
		for _, badge := range badBadges {
			refuses(t, "Mint of another kind, no badge", api.ErrArg)(Mint(c, 7, badge))
		}
	}
	for _, c := range nones {
		refuses(t, "Mint of none", api.ErrArg)(Mint(c, 7, 1))
		refuses(t, "Mint of none, by no mask", api.ErrArg)(Mint(c, -1, 1))
		refuses(t, "Mint of none, no badge", api.ErrArg)(Mint(c, 7, 0))
	}
}

// P3.2: a CNode's guard becomes each that may be, and all else stays.
func TestMutate(t *testing.T) {
	powers := []int{1, 2, 4, 8, 16, 32, 64, 128, 256}
	for _, c := range []api.Cap{{Kind: api.CNode},
		{Kind: api.CNode, Rights: 7, Obj: 31, Bits: 8, Guard: 255},
		{Kind: api.CNode, Rights: 1, Obj: 4, Bits: 3, Guard: 2}} {
		for bits, power := range powers {
			for guard := range power {
				want := api.Cap{Kind: api.CNode, Rights: c.Rights, Obj: c.Obj}
				want.Bits, want.Guard = bits, guard
				gives(t, "Mutate", want)(Mutate(c, guard, bits))
			}
			for _, guard := range []int{power, power + 1, 2*power + 1, 1 << 32, math.MaxInt,
				-1, -power, math.MinInt} {
				refuses(t, "Mutate to no guard", api.ErrArg)(Mutate(c, guard, bits))
			}
		}
		for _, bits := range []int{9, 10, 16, 63, 64, 65, 1 << 32, math.MaxInt, -1, -8, math.MinInt} {
			for _, guard := range []int{0, 1, 255, 256, -1} {
				refuses(t, "Mutate to no bits", api.ErrArg)(Mutate(c, guard, bits))
			}
		}
	}
}

// P3.2, R1, R3: what Mutate refuses, whatever the guard.
func TestMutateErrors(t *testing.T) {
	others := []api.Cap{{Kind: api.Endpoint, Badge: 1}, {Kind: api.Ntfn, Rights: 3, Badge: 65535}}
	for _, kind := range kinds {
		if kind != api.CNode {
			others = append(others, api.Cap{Kind: kind, Rights: 7, Obj: 3})
		}
	}
	for _, g := range [][2]int{{0, 0}, {3, 2}, {255, 8}, {1, 0}, {4, 2}, {-1, 3}, {0, 9}, {0, -1},
		{math.MinInt, math.MinInt}} {
		for _, c := range others {
			refuses(t, "Mutate of another kind", api.ErrType)(Mutate(c, g[0], g[1]))
		}
		for _, c := range nones {
			refuses(t, "Mutate of none", api.ErrArg)(Mutate(c, g[0], g[1]))
		}
	}
}
