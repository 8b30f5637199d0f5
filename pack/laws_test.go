package pack

import (
	"math"
	"testing"

	"padstone/api"
)

// allowed is what the chapter says of a capability, line by line.
func allowed(c api.Cap) bool {
	bears := c.Kind == 3 || c.Kind == 4
	switch {
	case c.Kind < 0 || c.Kind > 8:
	case c.Rights < 0 || c.Rights > 7:
	case c.Obj < 0 || c.Obj > 31:
	case c.Badge < 0 || c.Badge > 65535 || !bears && c.Badge != 0:
	case c.Bits < 0 || c.Bits > 8 || c.Kind != 2 && c.Bits != 0:
	case c.Guard < 0 || c.Guard >= []int{1, 2, 4, 8, 16, 32, 64, 128, 256}[c.Bits]:
	case c.Kind == 0 && c.Rights+c.Obj+c.Badge+c.Bits+c.Guard != 0:
	default:
		return true
	}
	return false
}

// split is what a word's parts are, whether a capability has them or not.
func split(w uint64) api.Cap {
	var l [6]int
	for i, size := range []uint64{16, 8, 32, 65536, 16} {
		l[i] = int(w % size)
		w /= size
	}
	l[5] = int(w)
	return api.Cap{Kind: l[0], Rights: l[1], Obj: l[2], Badge: l[3], Bits: l[4], Guard: l[5]}
}

// P2.1, P2.2: of a capability, whatever it is.
func putLaws(t *testing.T, c api.Cap) {
	t.Helper()
	w, err := Put(c)
	if May(c) != allowed(c) || (err == nil) != allowed(c) {
		t.Fatalf("%+v: May %v, Put %v, want %v", c, May(c), err, allowed(c))
	}
	if err != nil {
		if err != api.ErrArg || w != 0 {
			t.Fatalf("Put(%+v): %d, %v", c, w, err)
		}
		return
	}
	if back, err := Get(w); err != nil || back != c || split(w) != c {
		t.Fatalf("%+v was put as %#x, got as %+v, %v", c, w, back, err)
	}
}

// P2.1, P2.2: of a word, whatever it is; whether it was one.
func getLaws(t *testing.T, w uint64) bool {
	t.Helper()
	c, err := Get(w)
	if (err == nil) != allowed(split(w)) {
		t.Fatalf("Get(%#x): %+v, %v, want %v", w, c, err, allowed(split(w)))
	}
	if err != nil {
		if err != api.ErrArg || c != (api.Cap{}) {
			t.Fatalf("Get(%#x): %+v, %v", w, c, err)
		}
		return false
	}
	if back, err := Put(c); err != nil || back != w || !May(c) || c != split(w) {
		t.Fatalf("%#x was got as %+v, put as %#x, %v", w, c, back, err)
	}
	return true
}

// P2.2, P1 of the whole: at all edges of all parts together.
func TestLawsOfCaps(t *testing.T) {
	edges := []int{math.MinInt, -1, 0, 1, 2, 7, 8, 9, 31, 32, 255, 256, 65535, 65536, math.MaxInt}
	for kind := -1; kind <= 9; kind++ {
		for _, rights := range edges {
			for _, obj := range edges {
				for _, badge := range edges {
					for _, bits := range edges {
						for _, guard := range edges {
							putLaws(t, api.Cap{Kind: kind, Rights: rights, Obj: obj,
								Badge: badge, Bits: bits, Guard: guard})
						}
					}
				}
			}
		}
	}
}

// P2.2: each word of a kind, rights, object; and such ones with up to two bits above.
func TestLawsOfWords(t *testing.T) {
	found := 0
	for low := range uint64(4096) {
		for a := 12; a <= 64; a++ {
			for b := a; b <= 64; b++ {
				// A bit of number 64 is none: Go shifts it out.
				if getLaws(t, low|1<<a|1<<b) {
					found++
				}
			}
		}
	}
	// Of each rights and object: badges of up to two bits 153 (16 + 120 + 16 + 1, as
	// pairs count), guards 27 (1 + 8 + 3 + 15); of the five other kinds 1; Null.
	if want := 2*256*153 + 256*27 + 5*256 + 1; found != want {
		t.Errorf("%d words were ones, want %d", found, want)
	}
}

// P2.1, P2.2: words from a short rule, the same ones in each run.
func TestLawsOfAnyWords(t *testing.T) {
	w := uint64(2)
	for range 200000 {
		w = w*6364136223846793005 + 1442695040888963407
		for _, mask := range []uint64{0, 24, 28, 36, 52} {
			getLaws(t, w>>mask)
		}
	}
}
