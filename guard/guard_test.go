package guard

import (
	"math"
	"slices"
	"testing"

	"padstone/api"
)

// badAddrs are no addresses; the low bits of some are one's.
var badAddrs = []int{65536, 65537, 131071, 1 << 31, 1 << 32, 1<<32 + 43690, math.MaxInt, -1, -21846,
	-65536, math.MinInt}

// badLefts are no numbers of bits that are left.
var badLefts = []int{17, 18, 32, 63, 64, 65, 1 << 32, 1<<32 + 16, math.MaxInt, -1, -16, math.MinInt}

// below0 are numbers below 0.
var below0 = []int{-1, -2, -8, -16, -64, -1 << 32, math.MinInt}

// number holds a call that tells a number against what it is to tell.
func number(t *testing.T, what string, want int, wantErr error) func(int, error) {
	t.Helper()
	return func(n int, err error) {
		t.Helper()
		if n != want || err != wantErr {
			t.Errorf("%s: %d, %v, want %d, %v", what, n, err, want, wantErr)
		}
	}
}

// step holds a step's index, and what is left then, against what they are to be.
func step(t *testing.T, what string, want, wantLeft int, wantErr error) func(int, int, error) {
	t.Helper()
	return func(n, left int, err error) {
		t.Helper()
		if n != want || left != wantLeft || err != wantErr {
			t.Errorf("%s: %d, %d, %v, want %d, %d, %v", what, n, left, err, want, wantLeft, wantErr)
		}
	}
}

// P4.1: the highest bits of what is left, as a number.
func TestTop(t *testing.T) {
	for _, x := range []struct {
		what             string
		addr, left, bits int
		want             int
	}{
		{"all", 0xABCD, 16, 16, 0xABCD},
		{"all of the greatest", 65535, 16, 16, 65535},
		{"all of the least", 0, 16, 16, 0},
		{"the first bit of the greatest", 65535, 16, 1, 1},
		{"the first bit, alone in it", 32768, 16, 1, 1},
		{"the first bit, alone not in it", 32767, 16, 1, 0},
		{"four of sixteen", 0xABCD, 16, 4, 0xA},
		{"five of sixteen", 0xABCD, 16, 5, 0x15},
		{"fifteen of sixteen", 0xABCD, 16, 15, 0x55E6},
		{"four of twelve, bits above", 0xABCD, 12, 4, 0xB},
		{"all of twelve, bits above", 0xABCD, 12, 12, 0xBCD},
		{"four of eight, bits above", 0xABCD, 8, 4, 0xC},
		{"all of four, bits above", 0xABCD, 4, 4, 0xD},
		{"the last bit, which is 1", 0xABCD, 1, 1, 1},
		{"the last bit, which is 0", 0xABCE, 1, 1, 0},
		{"three of fifteen, bits above", 43690, 15, 3, 2},
		{"none of sixteen", 65535, 16, 0, 0},
		{"none of five", 65535, 5, 0, 0},
		{"none of none", 65535, 0, 0, 0},
	} {
		number(t, x.what, x.want, nil)(Top(x.addr, x.left, x.bits))
	}
}

// P4.1, R1, R3: bits of just what is left, of more, and below 0.
func TestTopErrors(t *testing.T) {
	for left := range 17 {
		for _, addr := range []int{0, 1, 43690, 65535} {
			if n, err := Top(addr, left, left); n != addr%(1<<left) || err != nil {
				t.Errorf("all of %d, %d left: %d, %v", addr, left, n, err)
			}
			for _, more := range []int{left + 1, left + 2, 17, 64, left + 1<<32, math.MaxInt} {
				number(t, "more than is left", 0, api.ErrDepth)(Top(addr, left, more))
			}
			for _, bits := range below0 {
				number(t, "bits below 0", 0, api.ErrArg)(Top(addr, left, bits))
			}
		}
	}
	for _, bits := range []int{0, 1, 16, 17, 64, math.MaxInt, -1, math.MinInt} {
		for _, addr := range badAddrs {
			for _, left := range append([]int{0, 8, 16}, badLefts...) {
				number(t, "no address", 0, api.ErrArg)(Top(addr, left, bits))
			}
		}
		for _, left := range badLefts {
			number(t, "no number of bits left", 0, api.ErrArg)(Top(43690, left, bits))
			number(t, "no number of bits left, of 0", 0, api.ErrArg)(Top(0, left, bits))
		}
	}
}

// P4.1: a step past a guard, to an index.
func TestWalk(t *testing.T) {
	for _, x := range []struct {
		what                           string
		addr, left, guard, bits, radix int
		want, wantLeft                 int
	}{
		{"the chapter's example", 43690, 16, 2, 2, 3, 5, 11},
		{"on from there", 43690, 11, 1, 2, 4, 5, 5},
		{"the rest, by its radix alone", 43690, 5, 0, 0, 5, 10, 0},
		{"a guard of eight bits", 0xABCD, 16, 0xAB, 8, 5, 0x19, 3},
		{"the greatest guard", 65535, 16, 255, 8, 5, 31, 3},
		{"a guard of 0, of eight bits", 255, 16, 0, 8, 4, 15, 4},
		{"no guard, the greatest radix", 0xABCD, 16, 0, 0, 5, 0x15, 11},
		{"no guard, no radix", 0xABCD, 16, 0, 0, 0, 0, 16},
		{"a guard, no radix", 0xABCD, 16, 0xA, 4, 0, 0, 12},
		{"a guard and a radix of all that is left", 0xABCD, 8, 0xC, 4, 4, 0xD, 0},
		{"a guard of all that is left, bits above", 0xABCD, 8, 0xCD, 8, 0, 0, 0},
		{"the most bits, all that is left, bits above", 0xF5A6, 13, 0xAD, 8, 5, 6, 0},
		{"a guard of one bit, 1", 32768, 16, 1, 1, 1, 0, 14},
		{"a guard of one bit, 0", 16384, 16, 0, 1, 1, 1, 14},
		{"nothing of nothing", 65535, 0, 0, 0, 0, 0, 0},
		{"of the last bit nothing", 65535, 1, 0, 0, 0, 0, 1},
	} {
		step(t, x.what, x.want, x.wantLeft, nil)(Walk(x.addr, x.left, x.guard, x.bits, x.radix))
	}
}

// P4.1: of all guards of so many bits the address bears one alone.
func TestWalkGuards(t *testing.T) {
	for bits := range 9 {
		for _, addr := range []int{0, 0x1234, 43690, 65535} {
			bears := addr % 8192 / (8192 >> bits)
			for guard := range 1 << bits {
				got, left, err := Walk(addr, 13, guard, bits, 5)
				want, wantLeft, wantErr := addr%(8192>>bits)/(256>>bits), 8-bits, error(nil)
				if guard != bears {
					want, wantLeft, wantErr = 0, 0, api.ErrGuard
				}
				step(t, "Walk by each guard", want, wantLeft, wantErr)(got, left, err)
			}
		}
	}
}

// P4.1, R3: what no walk may be told, whatever else it is told.
func TestWalkArgs(t *testing.T) {
	no := func(what string) func(int, int, error) { return step(t, what, 0, 0, api.ErrArg) }
	for _, addr := range badAddrs {
		no("no address")(Walk(addr, 16, 0, 0, 0))
		no("no address, none left")(Walk(addr, 0, 0, 0, 5))
		no("no address, another guard")(Walk(addr, 16, 1, 2, 3))
	}
	for _, left := range badLefts {
		no("no number of bits left")(Walk(43690, left, 2, 2, 3))
		no("no number of bits left, nothing to walk")(Walk(0, left, 0, 0, 0))
	}
	for _, left := range []int{0, 3, 16} {
		for _, bits := range append([]int{9, 10, 16, 17, 63, 64, 65, 1 << 32, math.MaxInt}, below0...) {
			for _, guard := range []int{0, 1, 255, 256, -1, math.MaxInt, math.MinInt} {
				no("no guard's bits")(Walk(43690, left, guard, bits, 3))
			}
		}
		for bits, power := range []int{1, 2, 4, 8, 16, 32, 64, 128, 256} {
			for _, guard := range append([]int{power, power + 1, 2*power + 1, 1 << 32,
				math.MaxInt}, below0...) {
				no("no guard")(Walk(43690, left, guard, bits, 3))
				no("no guard, no radix")(Walk(43690, left, guard, bits, 6))
			}
		}
		for _, radix := range append([]int{6, 7, 8, 16, 64, 1 << 32, math.MaxInt}, below0...) {
			no("no radix")(Walk(43690, left, 2, 2, radix))
			no("no radix, another guard")(Walk(43690, left, 1, 2, radix))
			no("no radix, no guard")(Walk(43690, left, 0, 0, radix))
		}
	}
}

// P4.1, R1, R3: guard and radix together more than is left, ahead of another guard.
func TestWalkDepth(t *testing.T) {
	for bits := range 9 {
		for radix := range 6 {
			for _, addr := range []int{0, 43690, 65535} {
				both := bits + radix
				for left := range both {
					for _, guard := range []int{0, 1<<bits - 1, 1 << bits / 2} {
						step(t, "too deep", 0, 0, api.ErrDepth)(Walk(addr, left, guard, bits, radix))
					}
				}
				guard := addr % (1 << both) >> radix
				step(t, "just as deep", addr%(1<<radix), 0, nil)(Walk(addr, both, guard, bits, radix))
				if bits > 0 {
					step(t, "just as deep, another guard", 0, 0, api.ErrGuard)(
						Walk(addr, both, guard^1, bits, radix))
				}
			}
		}
	}
	step(t, "a radix alone too deep", 0, 0, api.ErrDepth)(Walk(0, 4, 0, 0, 5))
	step(t, "a guard alone too deep", 0, 0, api.ErrDepth)(Walk(0, 7, 0, 8, 0))
	step(t, "both too deep, each not", 0, 0, api.ErrDepth)(Walk(0, 8, 0, 8, 1))
}

// P4.2: parts one behind the other, from the highest bit on; the others 0.
func TestJoin(t *testing.T) {
	sixteen := []int{1, 0, 1, 0, 1, 0, 1, 1, 1, 1, 0, 0, 1, 1, 0, 1}
	for _, x := range []struct {
		what        string
		parts, bits []int
		want        int
	}{
		{"no parts, nil", nil, nil, 0},
		{"no parts, empty", []int{}, nil, 0},
		{"one of all bits", []int{0xABCD}, []int{16}, 0xABCD},
		{"the greatest of all bits", []int{65535}, []int{16}, 65535},
		{"one of fifteen", []int{32767}, []int{15}, 65534},
		{"one of one bit", []int{1}, []int{1}, 32768},
		{"a 0 of one bit", []int{0}, []int{1}, 0},
		{"two", []int{0xA, 0xB}, []int{4, 4}, 0xAB00},
		{"two, the other way", []int{0xB, 0xA}, []int{4, 4}, 0xBA00},
		{"the chapter's example", []int{2, 5, 682}, []int{2, 3, 11}, 43690},
		{"a part with zeros ahead", []int{1, 1}, []int{8, 8}, 0x0101},
		{"sixteen of one bit", sixteen, slices.Repeat([]int{1}, 16), 0xABCD},
		{"parts of no bits", []int{0, 0xA, 0, 0, 0xBCD, 0}, []int{0, 4, 0, 0, 12, 0}, 0xABCD},
		{"parts of no bits alone", make([]int, 3), make([]int, 3), 0},
		{"more parts of no bits than bits", make([]int, 40), make([]int, 40), 0},
	} {
		number(t, x.what, x.want, nil)(Join(x.parts, x.bits))
	}
}

// P4.2, R3: what can't be joined.
func TestJoinErrors(t *testing.T) {
	const far = math.MaxInt
	for _, x := range []struct {
		what        string
		parts, bits []int
	}{
		{"more parts than bits", []int{1}, nil},
		{"more parts than bits, by one", []int{1, 1}, []int{4}},
		{"more parts than bits, all 0", []int{0, 0, 0}, []int{0}},
		{"fewer parts than bits", nil, []int{0}},
		{"fewer parts than bits, by one", []int{1}, []int{4, 4}},
		{"one of seventeen bits", []int{0}, []int{17}},
		{"seventeen bits, of two", []int{0, 0}, []int{9, 8}},
		{"seventeen bits, of seventeen", make([]int, 17), slices.Repeat([]int{1}, 17)},
		{"bits above sixteen, then none", []int{0, 0}, []int{17, 0}},
		{"bits far above sixteen", []int{0}, []int{far}},
		{"bits that wrap round", []int{0, 0, 0}, []int{far, far, 2}},
		{"bits that wrap round to 16", []int{1, 0, 0, 0}, []int{16, far, far, 2}},
		{"bits below 0", []int{0}, []int{-1}},
		{"bits far below 0", []int{0}, []int{math.MinInt}},
		{"bits below 0, together 16", []int{0, 0}, []int{17, -1}},
		{"bits below 0, together 16, the other way", []int{0, 0}, []int{-1, 17}},
		{"bits below 0, together 15", []int{0, 0}, []int{16, -1}},
		{"bits below 0, together 0", []int{0, 0}, []int{-4, 4}},
		{"a part below 0", []int{-1}, []int{3}},
		{"a part below 0, of no bits", []int{-1}, []int{0}},
		{"a part below 0, of all bits", []int{-1}, []int{16}},
		{"a part far below 0", []int{math.MinInt}, []int{16}},
		{"a part of too many bits", []int{2}, []int{1}},
		{"a part of no bits that isn't 0", []int{1}, []int{0}},
		{"a part of all bits, and one", []int{65536}, []int{16}},
		{"the greatest part", []int{far}, []int{16}},
		{"the last part of too many bits", []int{1, 3, 8}, []int{1, 2, 3}},
		{"the last part of no bits that isn't 0", []int{65535, 1}, []int{16, 0}},
		{"parts that would fit together", []int{1, -1}, []int{4, 4}},
		{"all wrong at once", []int{far, math.MinInt}, []int{math.MinInt, far}},
	} {
		number(t, x.what, 0, api.ErrArg)(Join(x.parts, x.bits))
	}
}

// P4.2: each number of bits bears 2 to the power of it many parts, at each place.
func TestJoinEdges(t *testing.T) {
	for bits, power := 0, 1; bits <= 16; bits, power = bits+1, 2*power {
		for ahead := range 17 - bits {
			unit := 65536 / power >> ahead
			for _, part := range []int{0, power / 2, power - 1} {
				number(t, "a part at a place", part*unit, nil)(Join([]int{0, part}, []int{ahead, bits}))
			}
			for _, part := range []int{power, power + 1, 1 << 32, math.MaxInt, -1, -power, math.MinInt} {
				number(t, "no part, at a place", 0, api.ErrArg)(Join([]int{0, part}, []int{ahead, bits}))
			}
		}
	}
}

// R2: lists stay as they were handed in.
func TestJoinLeavesLists(t *testing.T) {
	for _, x := range [][2][]int{
		{{2, 5, 682}, {2, 3, 11}}, {{2, 5, 2048}, {2, 3, 11}}, {{2, 5}, {2, 3, 11}}, {{1, 1}, {16, 1}},
	} {
		parts, bits := slices.Clone(x[0]), slices.Clone(x[1])
		Join(parts, bits)
		if !slices.Equal(parts, x[0]) || !slices.Equal(bits, x[1]) {
			t.Errorf("%v, %v became %v, %v", x[0], x[1], parts, bits)
		}
	}
}
