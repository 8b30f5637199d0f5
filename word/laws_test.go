package word

import (
	"math"
	"slices"
	"testing"

	"padstone/api"
)

// dice are numbers from a short rule: the same ones in each run.
type dice uint64

func (d *dice) roll(n int) int {
	*d = *d*6364136223846793005 + 1442695040888963407
	return int(uint64(*d) >> 33 % uint64(n))
}

// deed is one call that may change a store.
type deed struct {
	op      string
	i       int
	version uint32
	mark    int
	value   uint64
}

func (d deed) do(s *Store) error {
	switch d.op {
	case "Set":
		return s.Set(d.i, d.value)
	case "Reserve":
		return s.Reserve(d.i, d.version, d.mark)
	case "Release":
		return s.Release(d.i, d.mark)
	}
	return s.Put(d.i, d.mark, d.value)
}

// laws hold a deed's outcome against P1.4, R2 and R3.
func laws(t *testing.T, s *Store, d deed) {
	t.Helper()
	before := all(t, s)
	err := d.do(s)
	after := all(t, s)
	if err != nil && !slices.Equal(before, after) {
		t.Fatalf("%+v: %v, and cells changed: %v, %v", d, err, before, after)
	}
	for i, a := range before {
		b := after[i]
		if i != d.i && a != b {
			t.Fatalf("%+v: cell %d changed: %+v, %+v", d, i, a, b)
		}
		if b.Version < a.Version || b.Version > s.Limit() || b.Mark < 0 {
			t.Fatalf("%+v: cell %d: %+v, %+v", d, i, a, b)
		}
		if a.Mark != 0 && b.Mark == a.Mark && b.Value != a.Value {
			t.Fatalf("%+v: a value changed under a mark: %+v, %+v", d, a, b)
		}
		if a.Mark != 0 && b.Mark != a.Mark && d.mark != a.Mark {
			t.Fatalf("%+v: another one took the mark: %+v, %+v", d, a, b)
		}
		if b.Value != a.Value && b.Version == a.Version && d.op != "Set" {
			t.Fatalf("%+v: put without another version: %+v, %+v", d, a, b)
		}
	}
	if err == nil && d.op == "Put" && after[d.i].Version != before[d.i].Version+1 {
		t.Fatalf("%+v: version %d behind %d", d, after[d.i].Version, before[d.i].Version)
	}
	for i, v := range s.Values() {
		if v != after[i].Value {
			t.Fatalf("%+v: Values tells %d of cell %d, Read %d", d, v, i, after[i].Value)
		}
	}
}

// P1.4: whatever is done, in any order.
func TestLaws(t *testing.T) {
	ops := []string{"Set", "Reserve", "Reserve", "Release", "Put", "Put"}
	var d dice
	puts := 0
	for _, limit := range []uint32{1, 3, api.MaxVersion} {
		s := fresh(t, 4, limit)
		for range 20000 {
			x := deed{op: ops[d.roll(len(ops))], i: d.roll(6) - 1, mark: d.roll(4),
				version: uint32(d.roll(4)), value: uint64(d.roll(3))}
			if c, err := s.Read(x.i); err == nil && d.roll(4) > 0 {
				x.version = c.Version
			}
			laws(t, s, x)
		}
		for i := range 4 {
			c, _ := s.Read(i)
			puts += int(c.Version)
		}
	}
	// Else the laws would have been held against nothing.
	if puts < 300 {
		t.Error("hardly anything was put:", puts)
	}
}

// P1 of the whole: no call panics, at all arguments.
func TestAnyArguments(t *testing.T) {
	ints := []int{0, 1, 2, 3, 4, -1, 1023, 1024, 1025, 1 << 32, math.MaxInt, math.MinInt}
	versions := []uint32{0, 1, 2, api.MaxVersion}
	for _, n := range ints {
		for _, limit := range versions {
			s, err := New(n, limit)
			if (s == nil) != (err != nil) {
				t.Fatalf("New(%d, %d): %v, %v", n, limit, s, err)
			}
		}
	}
	s := fresh(t, 3, 1)
	for _, op := range []string{"Reserve", "Set", "Release", "Reserve", "Put"} {
		for _, i := range ints {
			for _, mark := range ints {
				for _, version := range versions {
					laws(t, s, deed{op, i, version, mark, math.MaxUint64 - uint64(version)})
				}
			}
		}
	}
}
