package rights

import (
	"math"
	"testing"

	"padstone/api"
	"padstone/pack"
)

// The chapter's words once more, error by error, right by right.

// every is whether each bit of one is a bit of another, gone through one by one.
func every(of, in int) bool {
	for bit := range 64 {
		if uint64(of)>>bit%2 == 1 && uint64(in)>>bit%2 == 0 {
			return false
		}
	}
	return true
}

// below is what Within is to tell.
func below(a, b api.Cap) bool {
	switch {
	case a.Kind != b.Kind, a.Obj != b.Obj, !every(a.Rights, b.Rights):
		return false
	case b.Badge == 0:
		return true
	}
	return a.Badge == b.Badge
}

// first is the first error whose case holds, or nil.
func first(l ...any) error {
	for i := 0; i < len(l); i += 2 {
		if l[i].(bool) {
			return l[i+1].(api.Code)
		}
	}
	return nil
}

// none is whether there is nothing that anything could come from.
func none(c api.Cap) bool { return !pack.May(c) || c.Kind == 0 }

// lessened is a capability with the rights that a mask has too.
func lessened(c api.Cap, mask int) api.Cap {
	rights := 0
	for _, right := range []int{1, 2, 4} {
		if every(right, c.Rights) && every(right, mask) {
			rights += right
		}
	}
	c.Rights = rights
	return c
}

// deriveLaws hold Derive against P3.2, P3.3, R3.
func deriveLaws(t *testing.T, c api.Cap, mask int) {
	t.Helper()
	want := first(none(c), api.ErrArg, mask < 0 || mask > 7, api.ErrArg, c.Kind == 1, api.ErrType)
	got, err := Derive(c, mask)
	told(t, "Derive", c, got, err, lessened(c, mask), want)
	if err != nil {
		return
	}
	comes(t, c, got)
	for again := range 8 {
		twice, err := Derive(got, again)
		if at, _ := Derive(c, mask&again); err != nil || twice != at {
			t.Fatalf("Derive of %+v by %d, %d: %+v, %v, by both at once %+v",
				c, mask, again, twice, err, at)
		}
	}
}

// mintLaws hold Mint against P3.2, P3.3, R3.
func mintLaws(t *testing.T, c api.Cap, mask, badge int) {
	t.Helper()
	want := first(none(c), api.ErrArg, mask < 0 || mask > 7, api.ErrArg,
		badge < 1 || badge > 65535, api.ErrArg,
		c.Kind != 3 && c.Kind != 4, api.ErrType, c.Badge != 0, api.ErrState)
	got, err := Mint(c, mask, badge)
	minted := lessened(c, mask)
	minted.Badge = badge
	told(t, "Mint", c, got, err, minted, want)
	if err != nil {
		return
	}
	comes(t, c, got)
	if Within(c, got) {
		t.Fatalf("%+v within %+v, which is minted of it", c, got)
	}
}

// mutateLaws hold Mutate against P3.2, R3.
func mutateLaws(t *testing.T, c api.Cap, guard, bits int) {
	t.Helper()
	mutated := c
	mutated.Guard, mutated.Bits = guard, bits
	want := first(none(c), api.ErrArg, c.Kind != 2, api.ErrType, !pack.May(mutated), api.ErrArg)
	got, err := Mutate(c, guard, bits)
	told(t, "Mutate", c, got, err, mutated, want)
	if err == nil {
		comes(t, c, got)
	}
}

// told holds what came against what was to come; beside an error nothing.
func told(t *testing.T, what string, c, got api.Cap, err error, want api.Cap, wantErr error) {
	t.Helper()
	if wantErr != nil {
		want = api.Cap{}
	}
	if err != wantErr || got != want {
		t.Fatalf("%s of %+v: %+v, %v, want %+v, %v", what, c, got, err, want, wantErr)
	}
}

// comes holds what came of a capability against P3.3: it may be, and is within it.
func comes(t *testing.T, c, got api.Cap) {
	t.Helper()
	if !pack.May(got) || !Within(got, c) || !below(got, c) {
		t.Fatalf("%+v comes of %+v", got, c)
	}
}

// caps are capabilities at edges of all parts, such as may be, and others.
func caps() []api.Cap {
	var l []api.Cap
	for kind := -1; kind <= 9; kind++ {
		for _, rights := range []int{math.MinInt, -1, 0, 1, 6, 7, 8, math.MaxInt} {
			for _, obj := range []int{-1, 0, 31, 32} {
				for _, badge := range []int{-1, 0, 1, 65535, 65536} {
					for _, guard := range [][2]int{{0, 0}, {1, 0}, {3, 2}, {4, 2}, {255, 8}, {0, 9}, {0, -1}} {
						l = append(l, api.Cap{Kind: kind, Rights: rights, Obj: obj, Badge: badge,
							Guard: guard[0], Bits: guard[1]})
					}
				}
			}
		}
	}
	return l
}

// P3.2, P3.3, P1 of the whole: at all edges together.
func TestLaws(t *testing.T) {
	masks := []int{math.MinInt, -1, 0, 1, 3, 5, 7, 8, math.MaxInt}
	badges := []int{math.MinInt, -1, 0, 1, 2, 65535, 65536, math.MaxInt}
	edges := []int{math.MinInt, -1, 0, 1, 2, 3, 4, 7, 8, 9, 63, 64, 255, 256, math.MaxInt}
	for _, c := range caps() {
		for _, mask := range masks {
			deriveLaws(t, c, mask)
			for _, badge := range badges {
				mintLaws(t, c, mask, badge)
			}
		}
		for _, bits := range edges {
			for _, guard := range edges {
				mutateLaws(t, c, guard, bits)
			}
		}
	}
}

// P3.1, P1 of the whole: Has, whatever is asked of whatever it is.
func TestLawsOfHas(t *testing.T) {
	needs := []int{math.MinInt, -8, -1, 0, 1, 2, 3, 4, 5, 6, 7, 8, 9, 15, 16, 1 << 32, math.MaxInt}
	for _, c := range caps() {
		for _, need := range needs {
			if got := Has(c, need); got != every(need, c.Rights) {
				t.Fatalf("Has of %+v, %d: %v", c, need, got)
			}
		}
	}
}

// P3.1, P1 of the whole: Within, of each two.
func TestLawsOfWithin(t *testing.T) {
	l := caps()
	within := 0
	for _, a := range l {
		for i := range len(l) / 7 {
			b := l[7*i+a.Bits&3]
			if got := Within(a, b); got != below(a, b) {
				t.Fatalf("%+v within %+v: %v", a, b, got)
			} else if got {
				within++
			}
		}
	}
	// Else hardly anything would have been held against what is within.
	if within < 20000 {
		t.Error("hardly any was within another one:", within)
	}
}

// P3.3: what is within is so along a way of several; all is within itself.
func TestLawsOfWays(t *testing.T) {
	c := api.Cap{Kind: api.Ntfn, Rights: api.CanAll, Obj: 17}
	for a := range 8 {
		x, err := Derive(c, a)
		told(t, "Derive", c, x, err, lessened(c, a), nil)
		for b := range 8 {
			y, err := Mint(x, b, 9)
			minted := lessened(x, b)
			minted.Badge = 9
			told(t, "Mint", x, y, err, minted, nil)
			for d := range 8 {
				z, err := Derive(y, d)
				told(t, "Derive", y, z, err, lessened(y, d), nil)
				if !Within(z, c) || !Within(z, x) || !Within(z, z) || Within(x, z) {
					t.Fatalf("%+v, %+v, %+v, %+v", c, x, y, z)
				}
			}
		}
	}
}
