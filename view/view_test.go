package view

import (
	"math"
	"slices"
	"testing"
)

// outside are numbers that no word of a list of n has.
func outside(n int) []int {
	return []int{-1, -2, -n, -n - 1, -1 << 32, math.MinInt + 1, math.MinInt,
		n, n + 1, 2*n + 1, 1 << 32, 1<<32 + 1, math.MaxInt - 1, math.MaxInt}
}

// pairs are a list of numbers, and what they have, in turn.
func pairs(l ...int) []Pair[uint64] {
	var told []Pair[uint64]
	for i := 0; i < len(l); i += 2 {
		told = append(told, Pair[uint64]{At: l[i], Val: uint64(l[i+1])})
	}
	return told
}

// noted is a plain view that notes what is read of it.
type noted struct {
	Plain
	reads []int
}

func (n *noted) Read(i int) uint64 {
	n.reads = append(n.reads, i)
	return n.Plain.Read(i)
}

// ranged is what a range tells, of at most so many.
func ranged(v View, from, to, most int) []Pair[uint64] {
	var l []Pair[uint64]
	if most == 0 {
		return l
	}
	for i, w := range Range(v, from, to) {
		l = append(l, Pair[uint64]{At: i, Val: w})
		if len(l) == most {
			break
		}
	}
	return l
}

// P5.1: a word that is there is read: the first, a middle, and the last one.
func TestPlainRead(t *testing.T) {
	p := Plain{7, 0, math.MaxUint64, 1 << 63}
	for i, want := range []uint64{7, 0, math.MaxUint64, 1 << 63} {
		if w := p.Read(i); w != want {
			t.Errorf("word %d: %d, want %d", i, w, want)
		}
	}
	if w := (Plain{5}).Read(0); w != 5 {
		t.Error("the only word:", w)
	}
	if !slices.Equal(p, Plain{7, 0, math.MaxUint64, 1 << 63}) {
		t.Error("what was read changed:", p)
	}
}

// P5.1, P5.4: a word that is there is written, and nothing else.
func TestPlainWrite(t *testing.T) {
	for i := range 4 {
		for _, w := range []uint64{0, 1, 1 << 63, math.MaxUint64} {
			p, want := Plain{7, 8, 9, 10}, Plain{7, 8, 9, 10}
			want[i] = w
			p.Write(i, w)
			if !slices.Equal(p, want) || p.Read(i) != w {
				t.Errorf("word %d written as %d: %v", i, w, p)
			}
		}
	}
	p := Plain{5}
	p.Write(0, 6)
	p.Write(0, 7)
	if p[0] != 7 {
		t.Error("the only word, written twice:", p)
	}
}

// P5.1: outside a list 0 is read, and nothing written, also behind it, where
// its memory goes on.
func TestPlainOutside(t *testing.T) {
	room := []uint64{7, 8, 9, 10}
	for _, p := range []Plain{{1, 2, 3}, {1}, {}, nil, Plain(room[:2]), Plain(room[1:1])} {
		before := slices.Clone(p)
		for _, i := range outside(len(p)) {
			p.Write(i, 99)
			if w := p.Read(i); w != 0 {
				t.Errorf("%v: word %d is %d", before, i, w)
			}
			if !slices.Equal(p, before) {
				t.Errorf("%v: word %d written: %v", before, i, p)
			}
		}
	}
	if !slices.Equal(room, []uint64{7, 8, 9, 10}) {
		t.Error("what lies behind a list's end was written:", room)
	}
}

// P5.1, P1 of the whole: a Plain that is nil is a view without words.
func TestPlainNil(t *testing.T) {
	var v View = Plain(nil)
	v.Write(0, 5)
	if w := v.Read(0); w != 0 {
		t.Error("a word of none:", w)
	}
	if l := ranged(v, -1, 2, 9); !slices.Equal(l, pairs(-1, 0, 0, 0, 1, 0)) {
		t.Error("a range of none:", l)
	}
}

// P5.1: each number from one on, below another, and what is read there.
func TestRange(t *testing.T) {
	p := Plain{5, 6, 7}
	for _, x := range []struct {
		what     string
		v        View
		from, to int
		want     []Pair[uint64]
	}{
		{"all", p, 0, 3, pairs(0, 5, 1, 6, 2, 7)},
		{"the first", p, 0, 1, pairs(0, 5)},
		{"the last", p, 2, 3, pairs(2, 7)},
		{"from a middle on", p, 1, 3, pairs(1, 6, 2, 7)},
		{"from below 0", p, -2, 2, pairs(-2, 0, -1, 0, 0, 5, 1, 6)},
		{"behind the last", p, 2, 5, pairs(2, 7, 3, 0, 4, 0)},
		{"beyond both ends", p, -1, 4, pairs(-1, 0, 0, 5, 1, 6, 2, 7, 3, 0)},
		{"below 0 alone", p, -3, 0, pairs(-3, 0, -2, 0, -1, 0)},
		{"behind alone", p, 3, 5, pairs(3, 0, 4, 0)},
		{"far below", p, math.MinInt, math.MinInt + 2, pairs(math.MinInt, 0, math.MinInt+1, 0)},
		{"far above", p, math.MaxInt - 2, math.MaxInt, pairs(math.MaxInt-2, 0, math.MaxInt-1, 0)},
		{"to where it begins", p, 1, 1, nil},
		{"to where it begins, at 0", p, 0, 0, nil},
		{"to where it begins, outside", p, 9, 9, nil},
		{"to below where it begins", p, 2, 1, nil},
		{"to far below where it begins", p, 2, -5, nil},
		{"to the smallest", p, math.MinInt, math.MinInt, nil},
		{"from the greatest", p, math.MaxInt, math.MaxInt, nil},
		{"from the greatest to the smallest", p, math.MaxInt, math.MinInt, nil},
		{"of no words", Plain{}, 0, 2, pairs(0, 0, 1, 0)},
	} {
		if l := ranged(x.v, x.from, x.to, 99); !slices.Equal(l, x.want) {
			t.Errorf("%s: %v, want %v", x.what, l, x.want)
		}
	}
}

// P5.1: as long as it is asked for: left at its first, a middle, or its last
// number, it reads no more, and none is read ahead.
func TestRangeLeft(t *testing.T) {
	for _, x := range []struct{ from, to int }{{0, 4}, {-2, 3}, {1, 9}, {3, 4}} {
		for most := range x.to - x.from + 2 {
			n := &noted{Plain: Plain{5, 6, 7, 8}}
			var want []Pair[uint64]
			var reads []int
			for i := x.from; i < x.to && len(want) < most; i++ {
				want = append(want, Pair[uint64]{At: i, Val: n.Plain.Read(i)})
				reads = append(reads, i)
			}
			if l := ranged(n, x.from, x.to, most); !slices.Equal(l, want) {
				t.Errorf("from %d to %d, at most %d: %v, want %v", x.from, x.to, most, l, want)
			}
			if !slices.Equal(n.reads, reads) {
				t.Errorf("from %d to %d, at most %d: reads %v, want %v",
					x.from, x.to, most, n.reads, reads)
			}
		}
	}
}

// P5.1, P1 of the whole: a range of nearly all numbers ends when it is left.
func TestRangeOfAllNumbers(t *testing.T) {
	if l := ranged(Plain{5}, math.MinInt, math.MaxInt, 2); !slices.Equal(l,
		pairs(math.MinInt, 0, math.MinInt+1, 0)) {
		t.Error("from the smallest on:", l)
	}
	if l := ranged(Plain{5}, 0, math.MaxInt, 2); !slices.Equal(l, pairs(0, 5, 1, 0)) {
		t.Error("to the greatest:", l)
	}
}

// P5.1: a number is asked for once, and none behind one that was the last asked for.
func TestRangeAsks(t *testing.T) {
	for most := 1; most <= 3; most++ {
		asked := 0
		Range(Plain{5, 6, 7}, 0, 3)(func(int, uint64) bool {
			asked++
			return asked < most
		})
		if asked != most {
			t.Errorf("asked for %d, and told %d", most, asked)
		}
	}
}

// P5.1: what is read is what the view has then, not what it had ahead.
func TestRangeReadsThen(t *testing.T) {
	p := Plain{1, 0, 0, 0}
	seq := Range(p, 0, 4)
	p.Write(0, 3)
	var l []uint64
	for i, w := range seq {
		l = append(l, w)
		p.Write(i+1, 2*w)
	}
	if !slices.Equal(l, []uint64{3, 6, 12, 24}) {
		t.Error("written meanwhile:", l)
	}
}

// P5.1: a range may be gone through again, and within itself.
func TestRangeAgain(t *testing.T) {
	seq := Range(Plain{5, 6}, 0, 2)
	var l []uint64
	for i, a := range seq {
		for j, b := range seq {
			l = append(l, 100*a+10*b+uint64(2*i+j))
		}
	}
	if !slices.Equal(l, []uint64{550, 561, 652, 663}) {
		t.Error("a range within itself:", l)
	}
	for range seq {
		break
	}
	for i, w := range seq {
		if i != 0 || w != 5 {
			t.Error("behind one that was left it begins at", i, w)
		}
		break
	}
}

// P5.2: where words are unlike, rising, with what they are then.
func TestChanged(t *testing.T) {
	for _, x := range []struct {
		what string
		a, b []uint64
		want []Pair[uint64]
	}{
		{"the chapter's example", []uint64{1, 2}, []uint64{1, 3}, pairs(1, 3)},
		{"alike", []uint64{1, 2, 3}, []uint64{1, 2, 3}, nil},
		{"alike, of zeros", []uint64{0, 0}, []uint64{0, 0}, nil},
		{"both nil", nil, nil, nil},
		{"both empty", []uint64{}, []uint64{}, nil},
		{"nil, empty", nil, []uint64{}, nil},
		{"empty, nil", []uint64{}, nil, nil},
		{"the first", []uint64{1, 2, 3}, []uint64{9, 2, 3}, pairs(0, 9)},
		{"the last", []uint64{1, 2, 3}, []uint64{1, 2, 9}, pairs(2, 9)},
		{"all", []uint64{1, 2, 3}, []uint64{2, 3, 1}, pairs(0, 2, 1, 3, 2, 1)},
		{"to 0", []uint64{1, 2}, []uint64{1, 0}, pairs(1, 0)},
		{"from 0", []uint64{0, 2}, []uint64{1, 2}, pairs(0, 1)},
		{"longer by zeros", []uint64{1}, []uint64{1, 0, 0}, nil},
		{"longer by others", []uint64{1}, []uint64{1, 0, 5, 0, 6}, pairs(2, 5, 4, 6)},
		{"shorter by zeros", []uint64{1, 0, 0}, []uint64{1}, nil},
		{"shorter by others", []uint64{1, 0, 5, 0, 6}, []uint64{1}, pairs(2, 0, 4, 0)},
		{"longer, and unlike ahead", []uint64{1, 2}, []uint64{3, 2, 4}, pairs(0, 3, 2, 4)},
		{"shorter, and unlike ahead", []uint64{1, 2, 4}, []uint64{3, 2}, pairs(0, 3, 2, 0)},
		{"nil, some", nil, []uint64{0, 7}, pairs(1, 7)},
		{"nil, zeros", nil, []uint64{0, 0}, nil},
		{"some, nil", []uint64{0, 7}, nil, pairs(1, 0)},
		{"zeros, empty", []uint64{0, 0}, []uint64{}, nil},
	} {
		if l := Changed(x.a, x.b); !slices.Equal(l, x.want) {
			t.Errorf("%s: %v, want %v", x.what, l, x.want)
		}
	}
}

// P5.2: words are held against each other by all of their bits.
func TestChangedBits(t *testing.T) {
	for bit := range 64 {
		a, b := []uint64{math.MaxUint64}, []uint64{math.MaxUint64 ^ 1<<bit}
		if l := Changed(a, b); len(l) != 1 || l[0] != (Pair[uint64]{At: 0, Val: b[0]}) {
			t.Errorf("bit %d: %v", bit, l)
		}
	}
}

// P5.2: what lies in memory behind a list's end isn't looked at.
func TestChangedBehindTheEnd(t *testing.T) {
	a, b := []uint64{1, 2, 3}, []uint64{1, 8, 9}
	if l := Changed(a[:1], b[:1]); len(l) != 0 {
		t.Error("behind both ends:", l)
	}
	if l := Changed(a[:1], b[:2]); !slices.Equal(l, pairs(1, 8)) {
		t.Error("behind the first one's end:", l)
	}
	if l := Changed(a[:2], b[:1]); !slices.Equal(l, pairs(1, 0)) {
		t.Error("behind the second one's end:", l)
	}
}

// P5.3, R2: the list is new memory, and those that are handed in stay.
func TestChangedIsNew(t *testing.T) {
	a, b := []uint64{1, 2, 3}, []uint64{4, 2, 5, 6}
	l, want := Changed(a, b), pairs(0, 4, 2, 5, 3, 6)
	m := Changed(a, b)
	for i := range l {
		l[i] = Pair[uint64]{At: 99, Val: 99}
	}
	if !slices.Equal(a, []uint64{1, 2, 3}) || !slices.Equal(b, []uint64{4, 2, 5, 6}) {
		t.Error("lists that were handed in changed:", a, b)
	}
	if !slices.Equal(m, want) || !slices.Equal(Changed(a, b), want) {
		t.Error("a list that was told changed:", m, Changed(a, b))
	}
	clear(a)
	clear(b)
	if !slices.Equal(m, want) {
		t.Error("a list that was told changed with those handed in:", m)
	}
}

// P5.2: all of a map, by rising numbers.
func TestOf(t *testing.T) {
	for _, x := range []struct {
		what string
		m    map[int]string
		want []Pair[string]
	}{
		{"nil", nil, nil},
		{"empty", map[int]string{}, nil},
		{"one", map[int]string{4: "d"}, []Pair[string]{{4, "d"}}},
		{"one at 0, of nothing", map[int]string{0: ""}, []Pair[string]{{0, ""}}},
		{"one below 0", map[int]string{-4: "d"}, []Pair[string]{{-4, "d"}}},
		{"many", map[int]string{10: "c", 9: "b", -1: "a", -10: "z", 0: "0", 1: "1"},
			[]Pair[string]{{-10, "z"}, {-1, "a"}, {0, "0"}, {1, "1"}, {9, "b"}, {10, "c"}}},
		{"the ends of numbers", map[int]string{math.MaxInt: "max", math.MinInt: "min", 0: "0",
			math.MaxInt - 1: "below", math.MinInt + 1: "above", -1: "-1"},
			[]Pair[string]{{math.MinInt, "min"}, {math.MinInt + 1, "above"}, {-1, "-1"}, {0, "0"},
				{math.MaxInt - 1, "below"}, {math.MaxInt, "max"}}},
	} {
		if l := Of(x.m); !slices.Equal(l, x.want) {
			t.Errorf("%s: %v, want %v", x.what, l, x.want)
		}
	}
}

// P5.2: of whatever type, also of ones that can't be held against each other.
func TestOfAnyType(t *testing.T) {
	if l := Of(map[int]uint64{2: math.MaxUint64, 1: 0}); !slices.Equal(l,
		[]Pair[uint64]{{1, 0}, {2, math.MaxUint64}}) {
		t.Error("words:", l)
	}
	if l := Of(map[int]Pair[bool]{2: {3, true}, 1: {}}); !slices.Equal(l,
		[]Pair[Pair[bool]]{{1, Pair[bool]{}}, {2, Pair[bool]{3, true}}}) {
		t.Error("pairs:", l)
	}
	if l := Of(map[int]error{1: nil}); len(l) != 1 || l[0].At != 1 || l[0].Val != nil {
		t.Error("an error that is nil:", l)
	}
	l := Of(map[int]func() int{8: func() int { return 80 }, -8: func() int { return -80 }})
	if len(l) != 2 || l[0].At != -8 || l[0].Val() != -80 || l[1].At != 8 || l[1].Val() != 80 {
		t.Error("functions:", l)
	}
	if l := Of(map[int][]int{3: {1, 2}, 2: nil}); len(l) != 2 || l[0].At != 2 || l[0].Val != nil ||
		!slices.Equal(l[1].Val, []int{1, 2}) {
		t.Error("lists:", l)
	}
}

// P5.3, R2: the list is new memory, and the map that is handed in stays.
func TestOfIsNew(t *testing.T) {
	m := map[int]int{1: 10, 2: 20}
	l, other, want := Of(m), Of(m), []Pair[int]{{1, 10}, {2, 20}}
	for i := range l {
		l[i] = Pair[int]{At: 99, Val: 99}
	}
	if len(m) != 2 || m[1] != 10 || m[2] != 20 {
		t.Error("the map that was handed in changed:", m)
	}
	if !slices.Equal(other, want) || !slices.Equal(Of(m), want) {
		t.Error("a list that was told changed:", other, Of(m))
	}
	m[1], m[3] = 11, 30
	delete(m, 2)
	if !slices.Equal(other, want) {
		t.Error("a list that was told changed with the map:", other)
	}
	if l := Of(m); !slices.Equal(l, []Pair[int]{{1, 11}, {3, 30}}) {
		t.Error("the changed map:", l)
	}
}
