package view

import (
	"math"
	"slices"
	"testing"
)

// dice are numbers from a short rule: the same ones in each run.
type dice uint64

func (d *dice) roll(n int) int {
	*d = *d*6364136223846793005 + 1442695040888963407
	return int(uint64(*d) >> 33 % uint64(n))
}

// words are so many words, of few values.
func (d *dice) words(n int) []uint64 {
	l := make([]uint64, n)
	for i := range l {
		l[i] = uint64(d.roll(3))
	}
	return l
}

// padded is a list with zeros behind, up to n words.
func padded(l []uint64, n int) []uint64 {
	return append(slices.Clone(l), make([]uint64, n-len(l))...)
}

// P5.4, P1 of the whole: whatever is written, what was written is read, and
// nothing else changes.
func TestLawsOfPlain(t *testing.T) {
	var d dice
	for n := range 9 {
		p := Plain(d.words(n))
		model := map[int]uint64{}
		for i, w := range p {
			model[i] = w
		}
		numbers := append(outside(n), 0, 0, 1, 1, 2, 3, 4, 5, 6, 7, 8)
		for range 2000 {
			i, w := numbers[d.roll(len(numbers))], uint64(d.roll(5))<<(16*d.roll(4))
			p.Write(i, w)
			if _, ok := model[i]; ok {
				model[i] = w
			}
			for _, j := range numbers {
				if got := p.Read(j); got != model[j] {
					t.Fatalf("%d words, %d written at %d: word %d is %d, want %d",
						n, w, i, j, got, model[j])
				}
			}
		}
		if len(p) != n {
			t.Fatalf("%d words became %d", n, len(p))
		}
	}
}

// P5.1, P5.4: a range tells each number from one on, below another, once, and
// what is read there, and writes nothing.
func TestLawsOfRange(t *testing.T) {
	var d dice
	ends := []int{-4, -3, -2, -1, 0, 1, 2, 3, 4, 5, 6, 7, 8, 9}
	for n := range 7 {
		p := Plain(d.words(n))
		before := slices.Clone(p)
		for _, from := range ends {
			for _, to := range append(ends, math.MinInt) {
				next := from
				for i, w := range Range(p, from, to) {
					if i != next || w != p.Read(i) {
						t.Fatalf("%v from %d to %d: %d at %d, want %d at %d",
							p, from, to, w, i, p.Read(next), next)
					}
					next++
				}
				if next != max(from, to) {
					t.Fatalf("%v from %d to %d: it ends at %d", p, from, to, next)
				}
			}
		}
		if !slices.Equal(p, before) {
			t.Fatalf("%v became %v", before, p)
		}
	}
}

// P5.2: what changed, written, makes one list the other; it rises, and has
// nothing that is alike.
func TestLawsOfChanged(t *testing.T) {
	var d dice
	for range 20000 {
		a, b := d.words(d.roll(7)), d.words(d.roll(7))
		n := max(len(a), len(b))
		became, want := padded(a, n), padded(b, n)
		last := -1
		for _, c := range Changed(a, b) {
			if c.At <= last || c.At >= n || c.Val == became[c.At] {
				t.Fatalf("%v, %v: %v", a, b, Changed(a, b))
			}
			last = c.At
			became[c.At] = c.Val
		}
		if !slices.Equal(became, want) {
			t.Fatalf("%v, %v: %v makes it %v", a, b, Changed(a, b), became)
		}
	}
}

// P5.2: all of a map are told, once each, rising, the same each time.
func TestLawsOfOf(t *testing.T) {
	var d dice
	numbers := append(outside(9), 0, 1, 2, 3, 4, 5, 6, 7, 8)
	for range 3000 {
		m := map[int]uint64{}
		for range d.roll(12) {
			m[numbers[d.roll(len(numbers))]] = uint64(d.roll(4))
		}
		l := Of(m)
		if len(l) != len(m) || !slices.Equal(l, Of(m)) {
			t.Fatalf("%v: %v, then %v", m, l, Of(m))
		}
		for i, x := range l {
			if w, ok := m[x.At]; !ok || w != x.Val || i > 0 && l[i-1].At >= x.At {
				t.Fatalf("%v: %v", m, l)
			}
		}
	}
}
