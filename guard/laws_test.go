package guard

import (
	"math"
	"strconv"
	"strings"
	"testing"

	"padstone/api"
)

// The chapter's words once more, an address written out as its bits.

// written is a number as text of so many bits.
func written(n, bits int) string {
	text := strconv.FormatInt(int64(n), 2)
	return (strings.Repeat("0", 64) + text)[64+len(text)-bits:]
}

// read is the number of a text of bits.
func read(bits string) int {
	n := 0
	for _, bit := range bits {
		n = 2*n + int(bit-'0')
	}
	return n
}

// remains is what is left of an address, or none, if one of them may not be.
func remains(addr, left int) (string, bool) {
	if addr < 0 || addr > 65535 || left < 0 || left > 16 {
		return "", false
	}
	return written(addr, 16)[16-left:], true
}

// top is what Top is to tell.
func top(addr, left, bits int) (int, error) {
	rest, ok := remains(addr, left)
	switch {
	case !ok, bits < 0:
		return 0, api.ErrArg
	case bits > len(rest):
		return 0, api.ErrDepth
	}
	return read(rest[:bits]), nil
}

// walk is what Walk is to tell.
func walk(addr, left, guard, guardBits, radix int) (int, int, error) {
	rest, ok := remains(addr, left)
	if !ok || guardBits < 0 || guardBits > 8 || radix < 0 || radix > 5 {
		return 0, 0, api.ErrArg
	}
	if guard < 0 || guard > 255 || strings.Contains(written(guard, 8)[:8-guardBits], "1") {
		return 0, 0, api.ErrArg
	}
	if len(rest) < guardBits+radix {
		return 0, 0, api.ErrDepth
	}
	rest, ok = strings.CutPrefix(rest, written(guard, guardBits))
	if !ok {
		return 0, 0, api.ErrGuard
	}
	return read(rest[:radix]), len(rest[radix:]), nil
}

// joined is what Join is to tell.
func joined(parts, bits []int) (int, error) {
	if len(parts) != len(bits) {
		return 0, api.ErrArg
	}
	text := ""
	for i, part := range parts {
		if bits[i] < 0 || bits[i] > 16 || part < 0 || part > 65535 ||
			strings.Contains(written(part, 16)[:16-bits[i]], "1") {
			return 0, api.ErrArg
		}
		text += written(part, bits[i])
	}
	if len(text) > 16 {
		return 0, api.ErrArg
	}
	return read(text + strings.Repeat("0", 16-len(text))), nil
}

// addrs are addresses, and what is none.
var addrs = []int{math.MinInt, -65536, -1, 0, 1, 2, 255, 256, 0x1234, 21845, 32767, 32768, 43690,
	0xABCD, 65534, 65535, 65536, 65537, 1 << 32, math.MaxInt}

// lefts are all numbers of bits that may be left, and what is none.
var lefts = []int{math.MinInt, -1, 0, 1, 2, 3, 4, 5, 6, 7, 8, 9, 10, 11, 12, 13, 14, 15, 16, 17, 64,
	1 << 32, math.MaxInt}

// P4.1, P1 of the whole: Top, at all edges together.
func TestLawsOfTop(t *testing.T) {
	for _, addr := range addrs {
		for _, left := range lefts {
			for _, bits := range lefts {
				want, wantErr := top(addr, left, bits)
				if n, err := Top(addr, left, bits); n != want || err != wantErr {
					t.Fatalf("Top(%d, %d, %d): %d, %v, want %d, %v",
						addr, left, bits, n, err, want, wantErr)
				}
			}
		}
	}
}

// walkLaws hold Walk by several guards of so many bits.
func walkLaws(t *testing.T, addr, left, bits, radix int, guards []int) {
	t.Helper()
	for _, guard := range guards {
		want, wantLeft, wantErr := walk(addr, left, guard, bits, radix)
		n, l, err := Walk(addr, left, guard, bits, radix)
		if n != want || l != wantLeft || err != wantErr {
			t.Fatalf("Walk(%d, %d, %d, %d, %d): %d, %d, %v, want %d, %d, %v",
				addr, left, guard, bits, radix, n, l, err, want, wantLeft, wantErr)
		}
	}
}

// P4.1, P1 of the whole: Walk, at all edges together, with the guard that the address bears.
func TestLawsOfWalk(t *testing.T) {
	edges := []int{math.MinInt, -1, 0, 1, 2, 3, 4, 5, 6, 7, 8, 9, 16, 63, 64, 1 << 32, math.MaxInt}
	for _, addr := range addrs {
		for _, left := range lefts {
			for _, bits := range edges {
				guards := []int{math.MinInt, -1, 0, 1, 170, 255, 256, math.MaxInt}
				if bits >= 0 && bits <= 9 {
					guards = append(guards, 1<<bits-1, 1<<bits)
				}
				if bears, err := top(addr, left, bits); err == nil {
					guards = append(guards, bears, bears^1, bears+1<<bits)
				}
				for _, radix := range edges {
					walkLaws(t, addr, left, bits, radix, guards)
				}
			}
		}
	}
}

// P4.2, P1 of the whole: Join of up to three, at all edges together.
func TestLawsOfJoin(t *testing.T) {
	var pairs [][2]int
	for _, bits := range []int{math.MinInt, -1, 0, 1, 7, 8, 9, 16, 17, 64, math.MaxInt} {
		for _, part := range []int{math.MinInt, -1, 0, 1, 127, 128, 511, 65535, 65536, math.MaxInt} {
			pairs = append(pairs, [2]int{part, bits})
		}
	}
	check := func(parts, bits []int) {
		want, wantErr := joined(parts, bits)
		if n, err := Join(parts, bits); n != want || err != wantErr {
			t.Fatalf("Join(%v, %v): %d, %v, want %d, %v", parts, bits, n, err, want, wantErr)
		}
	}
	for _, a := range pairs {
		check([]int{a[0]}, []int{a[1]})
		check([]int{a[0]}, nil)
		for _, b := range pairs {
			check([]int{a[0], b[0]}, []int{a[1], b[1]})
			check([]int{a[0], b[0]}, []int{a[1]})
			check([]int{a[0]}, []int{a[1], b[1]})
			for _, c := range pairs {
				check([]int{a[0], b[0], c[0]}, []int{a[1], b[1], c[1]})
			}
		}
	}
}

// P4.3: joined of a guard, an index and a rest, an address is walked to that
// index, by no other guard, and leaves the rest.
func TestLawsOfJoinedAddresses(t *testing.T) {
	for bits := range 9 {
		for guard := range 1 << bits {
			for radix := range 6 {
				for index := range 1 << radix {
					for _, left := range []int{bits + radix, 13, 14, 16} {
						rest := left - bits - radix
						for _, r := range []int{0, 5, 1<<rest - 1} {
							there(t, [4]int{0, guard, index, r % (1 << rest)},
								[4]int{16 - left, bits, radix, rest})
						}
					}
				}
			}
		}
	}
}

// there joins what is ahead, a guard, an index and a rest, and walks to that index.
func there(t *testing.T, parts, bits [4]int) {
	t.Helper()
	// What is ahead was walked already: it may be anything.
	parts[0] = 1<<bits[0] - 1
	addr, err := Join(parts[:], bits[:])
	if err != nil {
		t.Fatalf("Join(%v, %v): %v", parts, bits, err)
	}
	n, left, err := Walk(addr, 16-bits[0], parts[1], bits[1], bits[2])
	if n != parts[2] || left != bits[3] || err != nil {
		t.Fatalf("%v of %v bits: walked to %d, %d left, %v", parts, bits, n, left, err)
	}
	if rest, err := Top(addr, left, left); rest != parts[3] || err != nil {
		t.Fatalf("%v of %v bits: the rest is %d, %v", parts, bits, rest, err)
	}
	if bits[1] == 0 {
		return
	}
	n, left, err = Walk(addr, 16-bits[0], parts[1]^1, bits[1], bits[2])
	if n != 0 || left != 0 || err != api.ErrGuard {
		t.Fatalf("%v of %v bits, by another guard: %d, %d, %v", parts, bits, n, left, err)
	}
}
