package tx

import (
	"math"
	"slices"
	"testing"

	"padstone/api"
	"padstone/view"
)

// read is an entry of a cell that stays.
func read(i int, version uint32, value uint64) Entry {
	return Entry{Cell: i, Version: version, Old: value, New: value}
}

// wrote is an entry of a cell that becomes another.
func wrote(i int, version uint32, from, to uint64) Entry {
	return Entry{Cell: i, Version: version, Old: from, New: to, Write: true}
}

// record is one of so many cells, of which those were learnt.
func record(cells int, learnt ...Entry) *Tx {
	x := New(cells)
	for _, e := range learnt {
		x.Learn(e.Cell, api.Cell{Value: e.Old, Version: e.Version})
	}
	return x
}

// lacks holds a run of f against the cell that it is to lack.
func lacks(t *testing.T, what string, x *Tx, f func(v view.View), cell int) {
	t.Helper()
	if i, ok := x.Run(f); ok || i != cell {
		t.Errorf("%s: %d, %v, want %d, false", what, i, ok, cell)
	}
	if l := x.Entries(); len(l) != 0 {
		t.Errorf("%s: it lacks a cell, and tells %v", what, l)
	}
}

// whole holds a run of f, that is to lack none, against its entries.
func whole(t *testing.T, what string, x *Tx, f func(v view.View), want ...Entry) {
	t.Helper()
	if i, ok := x.Run(f); !ok || i != 0 {
		t.Errorf("%s: %d, %v, want 0, true", what, i, ok)
	}
	if l := x.Entries(); !slices.Equal(l, want) {
		t.Errorf("%s: %v, want %v", what, l, want)
	}
}

// reads holds how many cells were read against how many are to be.
func reads(t *testing.T, what string, x *Tx, want int) {
	t.Helper()
	if n := x.Reads(); n != want {
		t.Errorf("%s: %d were read, want %d", what, n, want)
	}
}

// same holds what was read of a view against what is to be.
func same(t *testing.T, what string, got []uint64, want ...uint64) {
	t.Helper()
	if !slices.Equal(got, want) {
		t.Errorf("%s: %v, want %v", what, got, want)
	}
}

// nothing does nothing.
func nothing(view.View) {}

// outside are numbers that no cell of a store of so many has.
func outside(cells int) []int {
	n := max(cells, 0)
	return []int{-1, -2, -n - 1, -1024, -1 << 32, math.MinInt + 1, math.MinInt,
		n, n + 1, 2*n + 1, n + 1024, 1 << 32, 1<<32 + 1, math.MaxInt - 1, math.MaxInt}
}

// stray reads, and writes, outside alone.
func stray(cells int) func(v view.View) {
	return func(v view.View) {
		for _, i := range outside(cells) {
			v.Read(i)
			v.Write(i, 9)
		}
	}
}

// The chapter's example.
func TestExample(t *testing.T) {
	lacks(t, "a function that reads 3", New(4), func(v view.View) { v.Read(3) }, 3)
}

// P6.1: the first cell that is lacked, in the order in which they are read, or
// written.
func TestLacksTheFirst(t *testing.T) {
	for _, x := range []struct {
		what string
		f    func(v view.View)
		cell int
	}{
		{"read alone", func(v view.View) { v.Read(2) }, 2},
		{"read alone, the first cell", func(v view.View) { v.Read(0) }, 0},
		{"read alone, the last cell", func(v view.View) { v.Read(4) }, 4},
		{"written alone", func(v view.View) { v.Write(2, 7) }, 2},
		{"written alone, the first cell", func(v view.View) { v.Write(0, 7) }, 0},
		{"written alone, the last cell", func(v view.View) { v.Write(4, 7) }, 4},
		{"written as 0", func(v view.View) { v.Write(2, 0) }, 2},
		{"read, read", func(v view.View) { v.Read(3); v.Read(2) }, 3},
		{"read, read, rising", func(v view.View) { v.Read(2); v.Read(3) }, 2},
		{"read, written", func(v view.View) { v.Read(3); v.Write(2, 7) }, 3},
		{"read, written, rising", func(v view.View) { v.Read(2); v.Write(3, 7) }, 2},
		{"written, read", func(v view.View) { v.Write(3, 7); v.Read(2) }, 3},
		{"written, read, rising", func(v view.View) { v.Write(2, 7); v.Read(3) }, 2},
		{"written, written", func(v view.View) { v.Write(3, 7); v.Write(2, 7) }, 3},
		{"written, written, rising", func(v view.View) { v.Write(2, 7); v.Write(3, 7) }, 2},
		{"behind one that was learnt", func(v view.View) { v.Read(1); v.Read(3) }, 3},
		{"behind one that was learnt, and is written",
			func(v view.View) { v.Write(1, 7); v.Write(3, 7); v.Read(1) }, 3},
		{"read behind what lies outside",
			func(v view.View) { v.Read(-1); v.Write(5, 7); v.Read(3); v.Read(0) }, 3},
		{"written behind what lies outside",
			func(v view.View) { stray(5)(v); v.Write(4, 7); v.Write(2, 7) }, 4},
		{"ahead of what lies outside", func(v view.View) { v.Read(3); stray(5)(v); v.Read(2) }, 3},
		{"again and again", func(v view.View) { v.Read(3); v.Read(4); v.Read(3); v.Write(3, 1) }, 3},
		{"by a range that begins outside", func(v view.View) {
			for range view.Range(v, -3, 9) {
			}
		}, 0},
	} {
		lacks(t, x.what, record(5, read(1, 1, 8)), x.f, x.cell)
	}
}

// P6.1: a cell that was lacked isn't learnt by that: it is lacked again, till
// it is learnt; then the next one is.
func TestLacksTheNext(t *testing.T) {
	x := New(4)
	f := func(v view.View) { v.Write(3, v.Read(2)+v.Read(0)) }
	for n, i := range []int{2, 0, 3} {
		lacks(t, "for the first time", x, f, i)
		lacks(t, "once more", x, f, i)
		reads(t, "ahead of being learnt", x, n)
		x.Learn(i, api.Cell{Value: uint64(10 + i), Version: uint32(20 + i)})
	}
	whole(t, "all are learnt", x, f, read(0, 20, 10), read(2, 22, 12), wrote(3, 23, 13, 22))
}

// P6.1: a cell is lacked, and learnt, whatever its value and its version are:
// also of 0, at version 0.
func TestLearntAsNothing(t *testing.T) {
	x := New(1)
	f := func(v view.View) { v.Read(0) }
	lacks(t, "not learnt", x, f, 0)
	x.Learn(0, api.Cell{})
	whole(t, "learnt as 0", x, f, read(0, 0, 0))
	reads(t, "learnt as 0", x, 1)
}

// P6.1: what was learnt is read; what was written is, instead, in that run.
func TestReads(t *testing.T) {
	x := record(4, read(0, 1, 5), read(1, 1, 6), read(3, 1, math.MaxUint64))
	var l []uint64
	f := func(v view.View) {
		l = append(l, v.Read(1), v.Read(3), v.Read(0), v.Read(-1), v.Read(4))
		v.Write(1, 8)
		l = append(l, v.Read(1), v.Read(0))
		v.Write(1, 0)
		l = append(l, v.Read(1), v.Read(3))
		v.Write(3, v.Read(1)+1)
		l = append(l, v.Read(3))
	}
	whole(t, "written, and read again", x, f,
		read(0, 1, 5), wrote(1, 1, 6, 0), wrote(3, 1, math.MaxUint64, 1))
	same(t, "written, and read again", l, 6, math.MaxUint64, 5, 0, 0, 8, 5, 0, math.MaxUint64, 1)
}

// P6.1: behind a cell that is lacked there is read what was written, else what
// was learnt, else 0.
func TestReadsBehindALack(t *testing.T) {
	x := record(5, read(0, 1, 5), read(1, 1, 6))
	var l []uint64
	lacks(t, "read", x, func(v view.View) {
		v.Write(1, 8)
		l = append(l, v.Read(3), v.Read(3), v.Read(0), v.Read(1), v.Read(2), v.Read(-1), v.Read(5))
		v.Write(0, 9)
		l = append(l, v.Read(0), v.Read(1))
	}, 3)
	same(t, "behind one that was read", l, 0, 0, 5, 8, 0, 0, 0, 9, 8)
	l = nil
	lacks(t, "written", x, func(v view.View) {
		v.Write(3, 7)
		l = append(l, v.Read(3), v.Read(0), v.Read(1), v.Read(2))
		v.Write(2, 4)
		v.Write(3, 3)
		l = append(l, v.Read(2), v.Read(3), v.Read(4))
	}, 3)
	same(t, "behind one that was written", l, 7, 5, 6, 0, 4, 3, 0)
	reads(t, "behind both", x, 2)
	whole(t, "behind both", x, nothing, read(0, 1, 5), read(1, 1, 6))
}

// P6.1: what was written ahead is forgotten by the next run, whether that one
// lacked a cell or none.
func TestForgets(t *testing.T) {
	x := record(3, read(0, 1, 5), read(1, 2, 6))
	var l []uint64
	look := func(v view.View) { l = append(l, v.Read(0), v.Read(1)) }
	whole(t, "some are written", x, func(v view.View) { v.Write(0, 7); v.Write(1, 8) },
		wrote(0, 1, 5, 7), wrote(1, 2, 6, 8))
	whole(t, "behind a run that lacked none", x, look, read(0, 1, 5), read(1, 2, 6))
	lacks(t, "some are written, one lacks", x,
		func(v view.View) { v.Write(0, 7); v.Write(2, 9); v.Write(1, 8) }, 2)
	whole(t, "behind a run that lacked one", x, look, read(0, 1, 5), read(1, 2, 6))
	same(t, "behind both", l, 5, 6, 5, 6)
	lacks(t, "the one that was written, but not learnt", x,
		func(v view.View) { l = append(l, v.Read(2)) }, 2)
	same(t, "the one that was written, but not learnt", l, 5, 6, 5, 6, 0)
	whole(t, "another one is written", x, func(v view.View) { v.Write(1, 9) },
		read(0, 1, 5), wrote(1, 2, 6, 9))
}

// P6.2: a cell that is written without having been learnt is lacked, though
// what was written is read; learnt, it is told with what was learnt.
func TestWrittenUnlearnt(t *testing.T) {
	x := New(2)
	var l []uint64
	f := func(v view.View) { v.Write(1, 4); l = append(l, v.Read(1)) }
	lacks(t, "not learnt", x, f, 1)
	x.Learn(1, api.Cell{Value: 3, Version: 8})
	whole(t, "learnt", x, f, wrote(1, 8, 3, 4))
	x.Learn(1, api.Cell{Value: 4, Version: 9})
	whole(t, "learnt as what is written", x, f, read(1, 9, 4))
	same(t, "read again", l, 4, 4, 4)
}

// P6.1: what is outside the store reads 0, isn't written, and isn't lacked.
func TestOutside(t *testing.T) {
	for _, cells := range []int{3, 1, 0, -1, -1024, math.MinInt} {
		x := New(cells)
		var want []Entry
		if cells > 0 {
			x.Learn(0, api.Cell{Value: 5, Version: 6})
			want = append(want, read(0, 6, 5))
		}
		for _, i := range outside(cells) {
			whole(t, "read alone", x, func(v view.View) { v.Read(i) }, want...)
			whole(t, "written alone", x, func(v view.View) { v.Write(i, 7) }, want...)
			whole(t, "both", x, func(v view.View) {
				a := v.Read(i)
				v.Write(i, 7)
				if b := v.Read(i); a != 0 || b != 0 {
					t.Errorf("of %d cells: cell %d is read as %d, written, as %d", cells, i, a, b)
				}
			}, want...)
		}
		whole(t, "all at once", x, stray(cells), want...)
		reads(t, "outside alone", x, len(want))
	}
}

// P6.1: of no cells, or fewer than none, there is nothing to lack, or learn.
func TestNoCells(t *testing.T) {
	for _, cells := range []int{0, -1, -5, math.MinInt} {
		x := New(cells)
		for _, i := range append(outside(cells), 0, 1, 2) {
			x.Learn(i, api.Cell{Value: 5, Version: 6})
			whole(t, "a record of no cells", x, func(v view.View) {
				v.Write(i, v.Read(i)+7)
				if w := v.Read(i); w != 0 {
					t.Errorf("of %d cells: cell %d is read as %d", cells, i, w)
				}
			})
		}
		reads(t, "a record of no cells", x, 0)
		whole(t, "no function", x, nil)
	}
}

// P6.1: of as many cells as a store may have, and of more.
func TestManyCells(t *testing.T) {
	for _, cells := range []int{api.MaxCells, 1 << 40, math.MaxInt} {
		x := New(cells)
		f := func(v view.View) { v.Write(cells-1, 7); v.Read(cells) }
		lacks(t, "the last one", x, f, cells-1)
		x.Learn(cells-1, api.Cell{Value: 6, Version: 5})
		whole(t, "the last one is learnt", x, f, wrote(cells-1, 5, 6, 7))
	}
}

// P6.1: of no function nothing is done, but what was written is forgotten.
func TestNoFunction(t *testing.T) {
	for _, f := range []func(v view.View){nil, nothing} {
		whole(t, "of a new record", New(3), f)
		x := record(3, read(1, 4, 5))
		whole(t, "behind Learn", x, f, read(1, 4, 5))
		whole(t, "once more", x, f, read(1, 4, 5))
		lacks(t, "one lacks", x, func(v view.View) { v.Write(1, 6); v.Read(0) }, 0)
		whole(t, "behind a run that lacked one", x, f, read(1, 4, 5))
		whole(t, "one is written", x, func(v view.View) { v.Write(1, 6) }, wrote(1, 4, 5, 6))
		whole(t, "behind a run that wrote", x, f, read(1, 4, 5))
		reads(t, "behind all", x, 1)
	}
}

// P6.1: a run is one run, and nothing else runs a function.
func TestRunsOnce(t *testing.T) {
	runs := 0
	f := func(v view.View) { runs++; v.Read(0) }
	x := New(1)
	x.Run(f)
	x.Learn(0, api.Cell{})
	x.Entries()
	x.Reads()
	if runs != 1 {
		t.Error("a run that lacked a cell ran it", runs, "times")
	}
	x.Run(f)
	x.Entries()
	x.Run(nil)
	if runs != 2 {
		t.Error("two runs ran it", runs, "times")
	}
}

// P6.1: what is learnt takes the place of what was read there, value and
// version, also where one of them alone is another, and where it is 0 again.
func TestLearnAgain(t *testing.T) {
	x := New(3)
	for _, c := range []api.Cell{{Value: 7, Version: 3}, {Value: 8, Version: 4}, {Value: 9, Version: 4},
		{Value: 9, Version: 5}, {Value: 1, Version: 2}, {}, {Value: math.MaxUint64, Version: api.MaxVersion}} {
		x.Learn(1, c)
		reads(t, "learnt again", x, 1)
		var l []uint64
		whole(t, "learnt again", x, func(v view.View) { l = append(l, v.Read(1)) },
			read(1, c.Version, c.Value))
		same(t, "learnt again", l, c.Value)
		whole(t, "learnt again, and written", x, func(v view.View) { v.Write(1, 77) },
			wrote(1, c.Version, c.Value, 77))
	}
	x.Learn(1, api.Cell{Value: 6, Version: 1})
	x.Learn(1, api.Cell{Value: 5, Version: 2})
	whole(t, "learnt twice in a row", x, nothing, read(1, 2, 5))
}

// P6.1: a cell is learnt whoever reserved it: marks are no part of a record.
func TestLearnMarked(t *testing.T) {
	x := New(1)
	x.Learn(0, api.Cell{Value: 7, Version: 3, Mark: 9})
	whole(t, "marked", x, func(v view.View) { v.Write(0, v.Read(0)+1) }, wrote(0, 3, 7, 8))
}

// P6.1: where there is no cell nothing is learnt.
func TestLearnNowhere(t *testing.T) {
	x := record(3, read(2, 4, 5))
	for _, i := range outside(3) {
		x.Learn(i, api.Cell{Value: 7, Version: 3})
		reads(t, "learnt nowhere", x, 1)
		whole(t, "learnt nowhere", x, func(v view.View) {
			if w := v.Read(i); w != 0 {
				t.Errorf("cell %d, that isn't there, is read as %d", i, w)
			}
		}, read(2, 4, 5))
	}
	lacks(t, "another one", x, func(v view.View) { v.Read(0) }, 0)
}

// P6.1: how many cells were read: neither those that are lacked, nor those
// that are written, and each once.
func TestHowManyReads(t *testing.T) {
	x := New(4)
	reads(t, "a new record", x, 0)
	x.Run(func(v view.View) { v.Read(0); v.Write(1, 5); v.Read(9) })
	reads(t, "behind a run that lacked some", x, 0)
	for n, i := range []int{3, 0, 2, 1} {
		x.Learn(i, api.Cell{Value: 1, Version: 1})
		x.Learn(i, api.Cell{Value: 2, Version: 2})
		reads(t, "learnt", x, n+1)
	}
	x.Run(func(v view.View) { v.Write(0, 5); v.Read(1) })
	reads(t, "behind a run that lacked none", x, 4)
	x.Entries()
	reads(t, "behind Entries", x, 4)
}

// P6.2: there are none ahead of any run, or behind one that lacked a cell,
// whatever the runs ahead of it told.
func TestNoEntries(t *testing.T) {
	x := New(3)
	if l := x.Entries(); len(l) != 0 {
		t.Error("of a new record:", l)
	}
	x.Learn(0, api.Cell{Value: 5, Version: 6})
	if l := x.Entries(); len(l) != 0 {
		t.Error("ahead of any run:", l)
	}
	whole(t, "behind a run that lacked none", x, nothing, read(0, 6, 5))
	lacks(t, "behind one that lacked a cell", x, func(v view.View) { v.Write(0, 4); v.Read(2) }, 2)
	lacks(t, "behind another", x, func(v view.View) { v.Write(1, 4); v.Write(0, 4) }, 1)
	whole(t, "behind one that lacked none again", x, func(v view.View) { v.Write(0, 4) },
		wrote(0, 6, 5, 4))
}

// P6.2: each cell that was learnt, what was learnt, what it would be, and
// whether it is written as another value.
func TestEntries(t *testing.T) {
	for _, x := range []struct {
		what string
		f    func(v view.View)
		want Entry
	}{
		{"not touched", nothing, read(1, 6, 5)},
		{"read", func(v view.View) { v.Read(1) }, read(1, 6, 5)},
		{"written", func(v view.View) { v.Write(1, 8) }, wrote(1, 6, 5, 8)},
		{"written as 0", func(v view.View) { v.Write(1, 0) }, wrote(1, 6, 5, 0)},
		{"written as the greatest", func(v view.View) { v.Write(1, math.MaxUint64) },
			wrote(1, 6, 5, math.MaxUint64)},
		{"read, and written", func(v view.View) { v.Write(1, v.Read(1)+1) }, wrote(1, 6, 5, 6)},
		{"written as what was learnt", func(v view.View) { v.Write(1, 5) }, read(1, 6, 5)},
		{"read, and written as that", func(v view.View) { v.Write(1, v.Read(1)) }, read(1, 6, 5)},
		{"written twice", func(v view.View) { v.Write(1, 8); v.Write(1, 9) }, wrote(1, 6, 5, 9)},
		{"written, and written back", func(v view.View) { v.Write(1, 8); v.Write(1, 5) }, read(1, 6, 5)},
		{"written back, and away again", func(v view.View) { v.Write(1, 5); v.Write(1, 8) },
			wrote(1, 6, 5, 8)},
		{"written, read, and written", func(v view.View) { v.Write(1, 8); v.Write(1, v.Read(1)+1) },
			wrote(1, 6, 5, 9)},
	} {
		r := record(3, read(1, 6, 5), read(0, 7, 5))
		whole(t, x.what, r, x.f, read(0, 7, 5), x.want)
		whole(t, x.what+", once more", r, x.f, read(0, 7, 5), x.want)
	}
}

// P6.2: values are held against each other by all of their bits.
func TestEntriesBits(t *testing.T) {
	for bit := range 64 {
		to := uint64(math.MaxUint64) ^ 1<<bit
		whole(t, "one bit", record(1, read(0, 1, math.MaxUint64)),
			func(v view.View) { v.Write(0, to) }, wrote(0, 1, math.MaxUint64, to))
	}
}

// P6.2: entries rise by cells, in whatever order those were learnt, read and
// written, each with its own version.
func TestEntriesRise(t *testing.T) {
	x := record(2000, read(1024, 0, 1), read(2, api.MaxVersion, 2), read(1999, 3, 3), read(0, 9, 4),
		read(10, 2, 5), read(9, 1, 6), read(1, 1<<31, 7))
	whole(t, "written downwards", x, func(v view.View) {
		v.Write(1999, 30)
		v.Read(1024)
		v.Write(10, 50)
		v.Read(9)
		v.Write(0, 40)
	}, wrote(0, 9, 4, 40), read(1, 1<<31, 7), read(2, api.MaxVersion, 2), read(9, 1, 6),
		wrote(10, 2, 5, 50), read(1024, 0, 1), wrote(1999, 3, 3, 30))
}

// R2: the list is new memory: to change it changes nothing, and nothing that
// comes behind changes it.
func TestEntriesAreNew(t *testing.T) {
	x := record(3, read(0, 1, 5), read(2, 2, 6))
	f := func(v view.View) { v.Write(0, v.Read(2)+1) }
	want := []Entry{wrote(0, 1, 5, 7), read(2, 2, 6)}
	whole(t, "at first", x, f, want...)
	l, kept := x.Entries(), x.Entries()
	for i := range l {
		l[i] = Entry{Cell: 99, Version: 99, Old: 99, New: 99}
	}
	if !slices.Equal(kept, want) || !slices.Equal(x.Entries(), want) {
		t.Error("a list that was told changed:", kept, x.Entries())
	}
	whole(t, "behind a changed list", x, f, want...)
	x.Learn(0, api.Cell{Value: 50, Version: 10})
	x.Learn(1, api.Cell{Value: 60, Version: 20})
	x.Run(func(v view.View) { v.Write(2, 70) })
	if !slices.Equal(kept, want) {
		t.Error("a list that was told changed with the record:", kept)
	}
}

// P6.1: records know nothing of each other.
func TestRecordsAreTheirOwn(t *testing.T) {
	x, y := record(2, read(0, 1, 5)), record(2, read(1, 2, 6))
	x.Run(func(v view.View) { v.Write(0, 9) })
	lacks(t, "the other one's", y, func(v view.View) { v.Read(0) }, 0)
	if l := x.Entries(); !slices.Equal(l, []Entry{wrote(0, 1, 5, 9)}) {
		t.Error("behind another one's run:", l)
	}
	reads(t, "the one", x, 1)
	reads(t, "the other one", y, 1)
}

// P6.1: what is written while its function runs is a run's; a view that is
// kept from it neither panics, nor changes what was told.
func TestKeptView(t *testing.T) {
	x := record(3, read(0, 1, 5))
	var kept view.View
	whole(t, "the view is kept", x, func(v view.View) { kept = v; v.Write(0, 6) }, wrote(0, 1, 5, 6))
	use := func() {
		for i := -1; i < 5; i++ {
			kept.Write(i, 9)
			kept.Read(i)
		}
	}
	use()
	if l := x.Entries(); !slices.Equal(l, []Entry{wrote(0, 1, 5, 6)}) {
		t.Error("by a view that was kept it became", l)
	}
	whole(t, "a run that uses the view of another", x, func(v view.View) { use() }, read(0, 1, 5))
}

// P1 of the whole: a panic is the function's end, not the call's.
func TestPanics(t *testing.T) {
	x := record(3, read(0, 1, 5))
	lacks(t, "behind a cell that is lacked", x, func(v view.View) {
		v.Write(0, 6)
		v.Write(0, 7/v.Read(1))
	}, 1)
	whole(t, "where none is lacked", x, func(v view.View) { v.Write(0, 6); panic("so") },
		wrote(0, 1, 5, 6))
	whole(t, "ahead of all", x, func(v view.View) { panic(nil) }, read(0, 1, 5))
	whole(t, "behind those", x, func(v view.View) { v.Write(0, v.Read(0)+2) }, wrote(0, 1, 5, 7))
}
