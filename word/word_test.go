package word

import (
	"math"
	"slices"
	"testing"

	"padstone/api"
)

// fresh is a store of some cells, which has to come.
func fresh(t *testing.T, cells int, limit uint32) *Store {
	t.Helper()
	s, err := New(cells, limit)
	if err != nil || s == nil {
		t.Fatalf("New(%d, %d): %v, %v", cells, limit, s, err)
	}
	return s
}

// want holds an error against the Code itself, not what wraps it.
func want(t *testing.T, what string, got, want error) {
	t.Helper()
	if got != want {
		t.Errorf("%s: %v, want %v", what, got, want)
	}
}

// cell holds cell i against what it is to be.
func cell(t *testing.T, s *Store, i int, want api.Cell) {
	t.Helper()
	if got, err := s.Read(i); err != nil || got != want {
		t.Errorf("cell %d: %+v, %v, want %+v", i, got, err, want)
	}
}

// all are all cells, as Read tells them.
func all(t *testing.T, s *Store) []api.Cell {
	t.Helper()
	var l []api.Cell
	for i := range s.Len() {
		c, err := s.Read(i)
		if err != nil {
			t.Fatalf("Read(%d): %v", i, err)
		}
		l = append(l, c)
	}
	return l
}

// nowhere are numbers that no cell of a store of three has.
var nowhere = []int{3, 4, 1024, math.MaxInt, -1, -3, math.MinInt, 1 << 32, -1 << 32}

// P1.1: what New refuses.
func TestNewRefuses(t *testing.T) {
	for _, n := range []int{0, -1, 1025, math.MaxInt, math.MinInt, 1<<32 + 1} {
		for _, limit := range []uint32{0, 1, api.MaxVersion} {
			s, err := New(n, limit)
			want(t, "New", err, api.ErrArg)
			if s != nil {
				t.Errorf("New(%d, %d): a store beside an error", n, limit)
			}
		}
	}
	for _, n := range []int{1, 2, 1024} {
		s, err := New(n, 0)
		want(t, "New", err, api.ErrArg)
		if s != nil {
			t.Errorf("New(%d, 0): a store beside an error", n)
		}
	}
}

// P1.1: a fresh store has values 0, versions 0, no marks.
func TestNew(t *testing.T) {
	for _, n := range []int{1, 2, 738, 1023, 1024} {
		for _, limit := range []uint32{1, 2, api.MaxVersion - 1, api.MaxVersion} {
			s := fresh(t, n, limit)
			if s.Len() != n || s.Limit() != limit {
				t.Errorf("New(%d, %d): Len %d, Limit %d", n, limit, s.Len(), s.Limit())
			}
			if v := s.Values(); !slices.Equal(v, make([]uint64, n)) {
				t.Errorf("New(%d, %d): values %v", n, limit, v)
			}
			if l := all(t, s); !slices.Equal(l, make([]api.Cell, n)) {
				t.Errorf("New(%d, %d): cells %v", n, limit, l)
			}
			_, err := s.Read(n)
			want(t, "Read behind the last", err, api.ErrNone)
		}
	}
}

// P1.1: two stores share nothing.
func TestNewApart(t *testing.T) {
	a, b := fresh(t, 2, 3), fresh(t, 2, 3)
	want(t, "Set", a.Set(0, 7), nil)
	want(t, "Reserve", a.Reserve(1, 0, 1), nil)
	cell(t, b, 0, api.Cell{})
	cell(t, b, 1, api.Cell{})
}

// P1.1, P1.2, R1: a cell that isn't there is told ahead of all else.
func TestNone(t *testing.T) {
	s := fresh(t, 3, 1)
	for _, i := range nowhere {
		c, err := s.Read(i)
		want(t, "Read", err, api.ErrNone)
		if c != (api.Cell{}) {
			t.Errorf("Read(%d): %+v beside an error", i, c)
		}
		want(t, "Set", s.Set(i, 1), api.ErrNone)
		for _, mark := range []int{1, 0, -1, math.MaxInt, math.MinInt} {
			want(t, "Reserve", s.Reserve(i, 0, mark), api.ErrNone)
			want(t, "Reserve of version 9", s.Reserve(i, 9, mark), api.ErrNone)
			want(t, "Release", s.Release(i, mark), api.ErrNone)
			want(t, "Put", s.Put(i, mark, 1), api.ErrNone)
		}
	}
	if l := all(t, s); !slices.Equal(l, make([]api.Cell, 3)) {
		t.Error("cells changed:", l)
	}
}

// P1.1: Set gives a value, and leaves the version; a marked cell it leaves.
func TestSet(t *testing.T) {
	s := fresh(t, 3, 5)
	want(t, "Set first", s.Set(0, math.MaxUint64), nil)
	want(t, "Set last", s.Set(2, 8), nil)
	cell(t, s, 0, api.Cell{Value: math.MaxUint64})
	cell(t, s, 1, api.Cell{})
	cell(t, s, 2, api.Cell{Value: 8})
	want(t, "Reserve", s.Reserve(2, 0, 4), nil)
	want(t, "Set of a marked one", s.Set(2, 9), api.ErrMarked)
	cell(t, s, 2, api.Cell{Value: 8, Mark: 4})
	want(t, "Put", s.Put(2, 4, 10), nil)
	want(t, "Set behind Put", s.Set(2, 11), nil)
	cell(t, s, 2, api.Cell{Value: 11, Version: 1})
	if v := s.Values(); !slices.Equal(v, []uint64{math.MaxUint64, 0, 11}) {
		t.Error("values:", v)
	}
}

// P1.2: what Reserve does, once and again.
func TestReserve(t *testing.T) {
	s := fresh(t, 3, 5)
	want(t, "Set", s.Set(1, 6), nil)
	want(t, "Reserve", s.Reserve(1, 0, 4), nil)
	cell(t, s, 1, api.Cell{Value: 6, Mark: 4})
	want(t, "Reserve again", s.Reserve(1, 0, 4), nil)
	cell(t, s, 1, api.Cell{Value: 6, Mark: 4})
	want(t, "Reserve by the greatest mark", s.Reserve(0, 0, math.MaxInt), nil)
	cell(t, s, 0, api.Cell{Mark: math.MaxInt})
	cell(t, s, 2, api.Cell{})
}

// P1.2, R1: Reserve's errors, and which comes first.
func TestReserveErrors(t *testing.T) {
	s := fresh(t, 1, 5)
	for _, mark := range []int{0, -1, math.MinInt} {
		want(t, "a mark below 1", s.Reserve(0, 0, mark), api.ErrArg)
		want(t, "a mark below 1, another version", s.Reserve(0, 1, mark), api.ErrArg)
	}
	for _, version := range []uint32{1, api.MaxVersion} {
		want(t, "another version", s.Reserve(0, version, 4), api.ErrState)
	}
	cell(t, s, 0, api.Cell{})
	want(t, "Reserve", s.Reserve(0, 0, 4), nil)
	held := api.Cell{Mark: 4}
	want(t, "a mark below 1 of a marked one", s.Reserve(0, 0, 0), api.ErrArg)
	want(t, "another mark", s.Reserve(0, 0, 5), api.ErrMarked)
	want(t, "another mark, another version", s.Reserve(0, 1, 3), api.ErrMarked)
	want(t, "its mark, another version", s.Reserve(0, 1, 4), api.ErrState)
	cell(t, s, 0, held)
	want(t, "Put", s.Put(0, 4, 9), nil)
	want(t, "an older version", s.Reserve(0, 0, 4), api.ErrState)
	cell(t, s, 0, api.Cell{Value: 9, Version: 1})
	want(t, "Reserve", s.Reserve(0, 1, 5), nil)
}

// P1.2: Release takes the mark alone, and its own alone.
func TestRelease(t *testing.T) {
	s := fresh(t, 2, 5)
	for _, mark := range []int{4, 1, 0, -1, math.MinInt, math.MaxInt} {
		want(t, "Release of one without a mark", s.Release(0, mark), api.ErrMarked)
	}
	want(t, "Set", s.Set(0, 6), nil)
	want(t, "Reserve", s.Reserve(0, 0, 4), nil)
	want(t, "Reserve", s.Reserve(1, 0, 7), nil)
	for _, mark := range []int{3, 5, 7, 0, -1, -4, math.MinInt, math.MaxInt} {
		want(t, "Release of another one's", s.Release(0, mark), api.ErrMarked)
	}
	cell(t, s, 0, api.Cell{Value: 6, Mark: 4})
	want(t, "Release", s.Release(0, 4), nil)
	cell(t, s, 0, api.Cell{Value: 6})
	cell(t, s, 1, api.Cell{Mark: 7})
	want(t, "Release twice", s.Release(0, 4), api.ErrMarked)
	want(t, "Reserve by another", s.Reserve(0, 0, 5), nil)
}

// P1.2: Put puts the value, counts the version, takes the mark.
func TestPut(t *testing.T) {
	s := fresh(t, 2, 5)
	for _, mark := range []int{4, 1, 0, -1, math.MinInt, math.MaxInt} {
		want(t, "Put of one without a mark", s.Put(0, mark, 9), api.ErrMarked)
	}
	want(t, "Reserve", s.Reserve(0, 0, 5), nil)
	want(t, "Reserve", s.Reserve(1, 0, 7), nil)
	for _, mark := range []int{4, 6, 7, 0, -1, -5, math.MinInt, math.MaxInt} {
		want(t, "Put of another one's", s.Put(0, mark, 9), api.ErrMarked)
	}
	cell(t, s, 0, api.Cell{Mark: 5})
	want(t, "Put", s.Put(0, 5, 9), nil)
	cell(t, s, 0, api.Cell{Value: 9, Version: 1})
	cell(t, s, 1, api.Cell{Mark: 7})
	want(t, "Put twice", s.Put(0, 5, 9), api.ErrMarked)
	want(t, "Reserve", s.Reserve(0, 1, 5), nil)
	want(t, "Put of the same value", s.Put(0, 5, 9), nil)
	cell(t, s, 0, api.Cell{Value: 9, Version: 2})
	if v := s.Values(); !slices.Equal(v, []uint64{9, 0}) {
		t.Error("values:", v)
	}
}

// P1.2, R3: at the limit nothing is put, and the mark stays.
func TestPutAtLimit(t *testing.T) {
	for _, limit := range []uint32{1, 2, 5} {
		s := fresh(t, 1, limit)
		for v := range limit {
			want(t, "Reserve", s.Reserve(0, v, 4), nil)
			want(t, "Put", s.Put(0, 4, uint64(v)+7), nil)
		}
		last := api.Cell{Value: uint64(limit) + 6, Version: limit}
		cell(t, s, 0, last)
		atLimit(t, s, last)
	}
}

// P1.2: the greatest limit is one, too: no version goes round to 0. (The version
// is laid into the store: so many puts would take too long.)
func TestPutAtGreatestLimit(t *testing.T) {
	s := fresh(t, 1, api.MaxVersion)
	s.cells[0] = api.Cell{Value: 3, Version: api.MaxVersion - 1}
	want(t, "Reserve", s.Reserve(0, api.MaxVersion-1, 4), nil)
	want(t, "Put", s.Put(0, 4, 5), nil)
	last := api.Cell{Value: 5, Version: api.MaxVersion}
	cell(t, s, 0, last)
	atLimit(t, s, last)
}

// atLimit holds what may be done with cell 0, at its limit, against the document.
func atLimit(t *testing.T, s *Store, last api.Cell) {
	t.Helper()
	want(t, "Reserve at the limit", s.Reserve(0, last.Version, 4), nil)
	held := last
	held.Mark = 4
	want(t, "Put at the limit", s.Put(0, 4, 1), api.ErrVersion)
	cell(t, s, 0, held)
	want(t, "Put at the limit, another one's", s.Put(0, 5, 1), api.ErrMarked)
	cell(t, s, 0, held)
	want(t, "Release at the limit", s.Release(0, 4), nil)
	cell(t, s, 0, last)
	want(t, "Put at the limit, without a mark", s.Put(0, 4, 1), api.ErrMarked)
	want(t, "Set at the limit", s.Set(0, 2), nil)
	cell(t, s, 0, api.Cell{Value: 2, Version: last.Version})
}

// P1.3: what is told is new memory.
func TestNewMemory(t *testing.T) {
	s := fresh(t, 2, 5)
	want(t, "Set", s.Set(0, 6), nil)
	a, b := s.Values(), s.Values()
	a[0], a[1] = 1, 2
	_ = append(a[:1], 3)
	if !slices.Equal(b, []uint64{6, 0}) {
		t.Error("two answers share memory:", b)
	}
	cell(t, s, 0, api.Cell{Value: 6})
	want(t, "Set", s.Set(1, 7), nil)
	if !slices.Equal(b, []uint64{6, 0}) {
		t.Error("an answer changed with the store:", b)
	}
	if v := s.Values(); !slices.Equal(v, []uint64{6, 7}) {
		t.Error("values:", v)
	}
}
