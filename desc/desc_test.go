package desc

import (
	"fmt"
	"math"
	"slices"
	"strings"
	"testing"

	"padstone/api"
	"padstone/tx"
	"padstone/word"
)

// reads is an entry of a cell that is only read.
func reads(i int, version uint32) tx.Entry { return tx.Entry{Cell: i, Version: version} }

// writes is an entry of a cell that is to be written.
func writes(i int, version uint32, value uint64) tx.Entry {
	return tx.Entry{Cell: i, Version: version, New: value, Write: true}
}

// store is one of those cells: their versions have been put, one by one.
func store(t *testing.T, limit uint32, cells ...api.Cell) *word.Store {
	t.Helper()
	s, err := word.New(len(cells), limit)
	if err != nil {
		t.Fatal(err)
	}
	for i, c := range cells {
		for version := range c.Version {
			if s.Reserve(i, version, 1) != nil || s.Put(i, 1, 1) != nil {
				t.Fatalf("cell %d can't be put", i)
			}
		}
		if s.Set(i, c.Value) != nil || c.Mark > 0 && s.Reserve(i, c.Version, c.Mark) != nil {
			t.Fatalf("cell %d can't be set, or reserved", i)
		}
	}
	return s
}

// fresh is a store of so many cells, as New makes it.
func fresh(t *testing.T, cells int) *word.Store {
	t.Helper()
	return store(t, api.MaxVersion, make([]api.Cell, cells)...)
}

// show tells a store: each cell's value, version, and mark, if it bears one.
func show(s *word.Store) string {
	var l []string
	for i := range s.Len() {
		c, _ := s.Read(i)
		w := fmt.Sprintf("%d.%d", c.Value, c.Version)
		if c.Mark != 0 {
			w += fmt.Sprintf("*%d", c.Mark)
		}
		l = append(l, w)
	}
	return strings.Join(l, " ")
}

// state tells a descriptor's status, and whether it is over.
func state(d *Desc) string {
	name := []string{"open", "done", "failed", "spent"}[d.Status()]
	if d.Over() {
		return name + ", over"
	}
	return name
}

// step takes one step, and tells it: what it told, if that wasn't 0; what
// became of the descriptor; and the store.
func step(d *Desc, s *word.Store) string {
	told := ""
	if n := d.Step(s); n != 0 {
		told = fmt.Sprintf("%d is in the way, ", n)
	}
	return told + state(d) + ": " + show(s)
}

// goes holds the next steps against what they are to tell.
func goes(t *testing.T, what string, d *Desc, s *word.Store, want ...string) {
	t.Helper()
	mark := d.Mark()
	for n, w := range want {
		if got := step(d, s); got != w {
			t.Errorf("%s: step %d: %s\nwant %s", what, n+1, got, w)
		}
		if d.Mark() != mark {
			t.Errorf("%s: step %d: mark %d, want %d", what, n+1, d.Mark(), mark)
		}
	}
}

// rests holds that a descriptor is over, and steps do nothing any more.
func rests(t *testing.T, what string, d *Desc, s *word.Store) {
	t.Helper()
	if !d.Over() {
		t.Errorf("%s: it isn't over", what)
	}
	still := state(d) + ": " + show(s)
	goes(t, what+", behind its end", d, s, still, still, still)
}

// The chapter's example: reserved, Done, put.
func TestExample(t *testing.T) {
	s := fresh(t, 1)
	d := New(1, []tx.Entry{writes(0, 0, 5)})
	goes(t, "one entry, that stands", d, s, "open: 0.0*1", "done: 0.0*1", "done, over: 5.1")
	rests(t, "one entry, that stands", d, s)
}

// P7.1: the statuses' numbers.
func TestStatuses(t *testing.T) {
	if Open != 0 || Done != 1 || Failed != 2 || Spent != 3 {
		t.Error(Open, Done, Failed, Spent)
	}
}

// P7.1: a new one is Open, not over, and bears its mark, whatever that is.
func TestNew(t *testing.T) {
	for _, mark := range []int{1, 2, 1024, math.MaxInt, 0, -1, math.MinInt} {
		for _, l := range [][]tx.Entry{nil, {}, {reads(0, 0)}, {writes(7, 0, 1), reads(-1, 3)}} {
			d := New(mark, l)
			if d.Status() != Open || d.Over() || d.Mark() != mark {
				t.Errorf("New(%d, %v): %d, %v, %d", mark, l, d.Status(), d.Over(), d.Mark())
			}
		}
	}
}

// P7.1: of no entries all are reserved, and then released, at once.
func TestNoEntries(t *testing.T) {
	for _, l := range [][]tx.Entry{nil, {}} {
		for _, mark := range []int{1, 9, 0, -1} {
			s := store(t, 1, api.Cell{Value: 7, Version: 1, Mark: 9})
			d := New(mark, l)
			goes(t, "no entries", d, s, "done, over: 7.1*9")
			rests(t, "no entries", d, s)
		}
	}
}

// P7.1: with no store nothing is done, at any step.
func TestNoStore(t *testing.T) {
	s := fresh(t, 2)
	d := New(3, []tx.Entry{writes(0, 0, 5), reads(1, 0)})
	idle := func() {
		t.Helper()
		was := state(d)
		for range 3 {
			if n := d.Step(nil); n != 0 || state(d) != was || d.Mark() != 3 {
				t.Errorf("a step of no store: %d, %s, %d, where it was %s", n, state(d), d.Mark(), was)
			}
		}
	}
	idle()
	for _, w := range []string{"open: 0.0*3 0.0", "open: 0.0*3 0.0*3", "done: 0.0*3 0.0*3",
		"done: 5.1 0.0*3", "done, over: 5.1 0.0"} {
		goes(t, "no store meanwhile", d, s, w)
		idle()
	}
	d = New(3, nil)
	idle()
	goes(t, "no store, no entries", d, s, "done, over: 5.1 0.0")
	idle()
	d = New(3, []tx.Entry{reads(0, 0), reads(1, 0)})
	idle()
	goes(t, "no store, another version", d, s, "failed: 5.1 0.0")
	idle()
	goes(t, "no store, another version", d, s, "failed: 5.1 0.0", "failed, over: 5.1 0.0")
	idle()
}

// P7.1: reserved one by one, Done, put or released one by one; Status, Over
// and the store at every step.
func TestSteps(t *testing.T) {
	s := store(t, 9, api.Cell{Value: 3, Version: 2}, api.Cell{Value: 4}, api.Cell{Value: 5, Version: 1})
	d := New(6, []tx.Entry{writes(0, 2, 13), reads(1, 0), writes(2, 1, 0)})
	goes(t, "three entries", d, s,
		"open: 3.2*6 4.0 5.1",
		"open: 3.2*6 4.0*6 5.1",
		"open: 3.2*6 4.0*6 5.1*6",
		"done: 3.2*6 4.0*6 5.1*6",
		"done: 13.3 4.0*6 5.1*6",
		"done: 13.3 4.0 5.1*6",
		"done, over: 13.3 4.0 0.2")
	rests(t, "three entries", d, s)
}

// P7.1: an entry that is only read is released, though its New is another
// value; one that is to be written is put, though its New is the same one;
// Old is the record's business.
func TestWriteAlone(t *testing.T) {
	for _, x := range []struct {
		what string
		e    tx.Entry
		last string
	}{
		{"read", tx.Entry{Version: 1, Old: 7, New: 7}, "7.1"},
		{"read, another New", tx.Entry{Version: 1, Old: 7, New: 8}, "7.1"},
		{"read, another Old", tx.Entry{Version: 1, Old: 6, New: 7}, "7.1"},
		{"written", tx.Entry{Version: 1, Old: 7, New: 8, Write: true}, "8.2"},
		{"written as it was", tx.Entry{Version: 1, Old: 7, New: 7, Write: true}, "7.2"},
		{"written as 0", tx.Entry{Version: 1, Old: 7, Write: true}, "0.2"},
		{"written, another Old", tx.Entry{Version: 1, Old: 6, New: 8, Write: true}, "8.2"},
		{"written, all bits", tx.Entry{Version: 1, New: math.MaxUint64, Write: true},
			"18446744073709551615.2"},
	} {
		s := store(t, 9, api.Cell{Value: 7, Version: 1})
		d := New(1, []tx.Entry{x.e})
		goes(t, x.what, d, s, "open: 7.1*1", "done: 7.1*1", "done, over: "+x.last)
		rests(t, x.what, d, s)
	}
}

// P7.1: an entry at no cell fails; what was reserved ahead of it is released.
func TestNoCell(t *testing.T) {
	for _, i := range []int{-1, -2, -3, -1024, -1 << 32, math.MinInt,
		2, 3, 4, 1023, 1024, 1 << 32, 1<<32 + 1, math.MaxInt} {
		for _, e := range []tx.Entry{reads(i, 0), writes(i, 0, 5), reads(i, 1), writes(i, 1, 5)} {
			what := fmt.Sprintf("%+v", e)
			s := store(t, 1, api.Cell{Value: 3}, api.Cell{Value: 4, Version: 1})
			d := New(8, []tx.Entry{e})
			goes(t, what, d, s, "failed: 3.0 4.1", "failed, over: 3.0 4.1")
			rests(t, what, d, s)
			d = New(8, []tx.Entry{writes(0, 0, 9), e, reads(1, 1)})
			goes(t, what+" between", d, s, "open: 3.0*8 4.1", "failed: 3.0*8 4.1",
				"failed: 3.0 4.1", "failed: 3.0 4.1", "failed, over: 3.0 4.1")
			rests(t, what+" between", d, s)
		}
	}
}

// P7.1: an entry of another version fails, be it an earlier or a later one.
func TestAnotherVersion(t *testing.T) {
	for _, version := range []uint32{0, 1, 3, 4, math.MaxInt32, api.MaxVersion} {
		for _, e := range []tx.Entry{reads(0, version), writes(0, version, 5),
			{Cell: 0, Version: version, Old: 7, New: 7}} {
			what := fmt.Sprintf("%+v", e)
			s := store(t, 4, api.Cell{Value: 7, Version: 2}, api.Cell{})
			d := New(1, []tx.Entry{e, writes(1, 0, 6)})
			goes(t, what, d, s, "failed: 7.2 0.0", "failed: 7.2 0.0", "failed, over: 7.2 0.0")
			rests(t, what, d, s)
		}
	}
}

// P7.1: another version comes ahead of a version at its end, and both ahead
// of a mark below 1.
func TestOrderOfEnds(t *testing.T) {
	for _, x := range []struct {
		what string
		mark int
		e    tx.Entry
		want string
	}{
		{"written, an earlier version, at the limit", 1, writes(0, 1, 5), "failed"},
		{"written, a later version, at the limit", 1, writes(0, 3, 5), "failed"},
		{"written, at the limit", 1, writes(0, 2, 5), "spent"},
		{"written as it is, at the limit", 1, writes(0, 2, 7), "spent"},
		{"written, at the limit, mark 0", 0, writes(0, 2, 5), "spent"},
		{"written, at the limit, mark -1", -1, writes(0, 2, 5), "spent"},
		{"written, another version, mark 0", 0, writes(0, 1, 5), "failed"},
		{"read, at the limit, mark 0", 0, reads(0, 2), "failed"},
		{"read, another version, mark -1", -1, reads(0, 1), "failed"},
	} {
		s := store(t, 2, api.Cell{Value: 7, Version: 2})
		d := New(x.mark, []tx.Entry{x.e})
		goes(t, x.what, d, s, x.want+": 7.2", x.want+", over: 7.2")
		rests(t, x.what, d, s)
	}
}

// P7.1: at the limit a cell may be read, not written; one below it, both.
func TestLimit(t *testing.T) {
	for _, limit := range []uint32{1, 2, 7} {
		s := store(t, limit, api.Cell{Value: 3, Version: limit - 1}, api.Cell{Value: 4, Version: limit})
		was := show(s)
		d := New(1, []tx.Entry{reads(1, limit)})
		d.Step(s)
		d.Step(s)
		if d.Step(s); d.Status() != Done || !d.Over() || show(s) != was {
			t.Errorf("read at the limit %d: %s: %s", limit, state(d), show(s))
		}
		d = New(2, []tx.Entry{writes(0, limit-1, 5), writes(1, limit, 6)})
		goes(t, "written at the limit, behind one below it", d, s,
			fmt.Sprintf("open: 3.%d*2 4.%d", limit-1, limit),
			fmt.Sprintf("spent: 3.%d*2 4.%d", limit-1, limit),
			fmt.Sprintf("spent: %s", was), fmt.Sprintf("spent, over: %s", was))
		rests(t, "written at the limit, behind one below it", d, s)
		d = New(3, []tx.Entry{writes(0, limit-1, 5), reads(1, limit)})
		goes(t, "written below the limit", d, s,
			fmt.Sprintf("open: 3.%d*3 4.%d", limit-1, limit),
			fmt.Sprintf("open: 3.%d*3 4.%d*3", limit-1, limit),
			fmt.Sprintf("done: 3.%d*3 4.%d*3", limit-1, limit),
			fmt.Sprintf("done: 5.%d 4.%d*3", limit, limit),
			fmt.Sprintf("done, over: 5.%d 4.%d", limit, limit))
		rests(t, "written below the limit", d, s)
		d = New(4, []tx.Entry{writes(0, limit, 6)})
		goes(t, "written at the limit that was reached", d, s,
			fmt.Sprintf("spent: 5.%d 4.%d", limit, limit),
			fmt.Sprintf("spent, over: 5.%d 4.%d", limit, limit))
	}
}

// P7.1: a mark below 1 reserves nothing, and takes no mark from a cell.
func TestMarkBelow1(t *testing.T) {
	for _, mark := range []int{0, -1, -4, math.MinInt} {
		for _, e := range []tx.Entry{reads(0, 1), writes(0, 1, 5)} {
			s := store(t, 9, api.Cell{Value: 7, Version: 1}, api.Cell{Value: 8, Mark: 4})
			d := New(mark, []tx.Entry{e, writes(1, 0, 6)})
			what := fmt.Sprintf("mark %d, %+v", mark, e)
			goes(t, what, d, s, "failed: 7.1 8.0*4", "failed: 7.1 8.0*4", "failed, over: 7.1 8.0*4")
			rests(t, what, d, s)
		}
	}
}

// P7.1: another mark is told each time, and nothing is done, as long as the
// cell bears it; it comes ahead of all else that is looked at there.
func TestAnotherMark(t *testing.T) {
	for _, x := range []struct {
		what string
		mark int
		e    tx.Entry
		then string
	}{
		{"it stands", 1, writes(0, 2, 5), "open: 7.2*1"},
		{"a later mark", math.MaxInt, reads(0, 2), "open: 7.2*9223372036854775807"},
		{"another version", 1, reads(0, 1), "failed: 7.2"},
		{"another version, written", 1, writes(0, 3, 5), "failed: 7.2"},
		{"mark 0", 0, writes(0, 2, 5), "failed: 7.2"},
		{"mark -6", -6, reads(0, 2), "failed: 7.2"},
		{"mark 0, another version", 0, reads(0, 1), "failed: 7.2"},
	} {
		s := store(t, 3, api.Cell{Value: 7, Version: 2, Mark: 6})
		d := New(x.mark, []tx.Entry{x.e})
		way := "6 is in the way, open: 7.2*6"
		goes(t, x.what, d, s, way, way, way)
		if err := s.Release(0, 6); err != nil {
			t.Fatal(err)
		}
		goes(t, x.what, d, s, x.then)
	}
	s := store(t, 2, api.Cell{Value: 7, Version: 2, Mark: 6})
	for _, mark := range []int{1, 0, -1} {
		d := New(mark, []tx.Entry{writes(0, 2, 5)})
		goes(t, "at the limit", d, s, "6 is in the way, open: 7.2*6", "6 is in the way, open: 7.2*6")
	}
}

// P7.1: the mark in the way is that of the next entry's cell, not that of
// another one's; what was reserved ahead of it stays reserved.
func TestMarkOfTheNext(t *testing.T) {
	s := store(t, 9, api.Cell{Mark: 4}, api.Cell{}, api.Cell{Mark: 5})
	d := New(1, []tx.Entry{writes(1, 0, 8), reads(0, 0), reads(2, 0)})
	goes(t, "two marks", d, s, "open: 0.0*4 0.0*1 0.0*5",
		"4 is in the way, open: 0.0*4 0.0*1 0.0*5",
		"4 is in the way, open: 0.0*4 0.0*1 0.0*5")
	s.Release(0, 4)
	goes(t, "one of them is gone", d, s, "open: 0.0*1 0.0*1 0.0*5",
		"5 is in the way, open: 0.0*1 0.0*1 0.0*5",
		"5 is in the way, open: 0.0*1 0.0*1 0.0*5")
	s.Put(2, 5, 6)
	goes(t, "the other one has put its value", d, s,
		"failed: 0.0*1 0.0*1 6.1", "failed: 0.0*1 0.0 6.1", "failed: 0.0 0.0 6.1",
		"failed, over: 0.0 0.0 6.1")
	rests(t, "the other one has put its value", d, s)
}

// P7.1: a Failed one, and a Spent one, release what they reserved, in the
// order of the entries, one a step, and put nothing. Cells that others have
// reserved stay theirs, and are in nobody's way.
func TestReleases(t *testing.T) {
	for _, x := range []struct {
		last tx.Entry
		want string
	}{
		{writes(2, 1, 9), "failed"},
		{reads(2, 1), "failed"},
		{writes(5, 0, 9), "failed"},
		{writes(2, 2, 9), "spent"},
	} {
		s := store(t, 2, api.Cell{Value: 1}, api.Cell{Value: 2, Version: 1},
			api.Cell{Value: 3, Version: 2}, api.Cell{Value: 4, Mark: 7})
		d := New(5, []tx.Entry{writes(0, 0, 9), reads(1, 1), x.last, writes(3, 0, 9)})
		what := fmt.Sprintf("%+v", x.last)
		goes(t, what, d, s,
			"open: 1.0*5 2.1 3.2 4.0*7",
			"open: 1.0*5 2.1*5 3.2 4.0*7",
			x.want+": 1.0*5 2.1*5 3.2 4.0*7",
			x.want+": 1.0 2.1*5 3.2 4.0*7",
			x.want+": 1.0 2.1 3.2 4.0*7",
			x.want+": 1.0 2.1 3.2 4.0*7",
			x.want+", over: 1.0 2.1 3.2 4.0*7")
		rests(t, what, d, s)
	}
}

// P7.1: entries as they are handed in, also where their cells don't rise.
func TestOrder(t *testing.T) {
	s := fresh(t, 3)
	d := New(1, []tx.Entry{writes(2, 0, 5), reads(0, 0), writes(1, 0, 6)})
	goes(t, "they don't rise", d, s,
		"open: 0.0 0.0 0.0*1", "open: 0.0*1 0.0 0.0*1", "open: 0.0*1 0.0*1 0.0*1",
		"done: 0.0*1 0.0*1 0.0*1",
		"done: 0.0*1 0.0*1 5.1", "done: 0.0 0.0*1 5.1", "done, over: 0.0 6.1 5.1")
	rests(t, "they don't rise", d, s)
	d = New(2, []tx.Entry{writes(2, 1, 7), reads(1, 1), writes(0, 1, 8)})
	goes(t, "they don't rise, the last one fails", d, s,
		"open: 0.0 6.1 5.1*2", "open: 0.0 6.1*2 5.1*2", "failed: 0.0 6.1*2 5.1*2",
		"failed: 0.0 6.1*2 5.1", "failed: 0.0 6.1 5.1", "failed, over: 0.0 6.1 5.1")
	rests(t, "they don't rise, the last one fails", d, s)
}

// P7.1: two entries of the same cell: both are reserved, by the same mark;
// what is put, or released, first takes the mark with it.
func TestSameCellTwice(t *testing.T) {
	for _, x := range []struct {
		what string
		a, b tx.Entry
		last string
	}{
		{"written twice", writes(0, 0, 5), writes(0, 0, 6), "5.1"},
		{"written, read", writes(0, 0, 5), reads(0, 0), "5.1"},
		{"read, written", reads(0, 0), writes(0, 0, 6), "0.0"},
		{"read twice", reads(0, 0), reads(0, 0), "0.0"},
	} {
		s := fresh(t, 1)
		d := New(1, []tx.Entry{x.a, x.b})
		goes(t, x.what, d, s, "open: 0.0*1", "open: 0.0*1", "done: 0.0*1",
			"done: "+x.last, "done, over: "+x.last)
		rests(t, x.what, d, s)
	}
	s := fresh(t, 1)
	d := New(1, []tx.Entry{writes(0, 0, 5), writes(0, 1, 6)})
	goes(t, "of two versions", d, s, "open: 0.0*1", "failed: 0.0*1", "failed: 0.0", "failed, over: 0.0")
	rests(t, "of two versions", d, s)
	s = store(t, 1, api.Cell{Value: 7, Version: 1})
	d = New(1, []tx.Entry{reads(0, 1), writes(0, 1, 5)})
	goes(t, "at the limit", d, s, "open: 7.1*1", "spent: 7.1*1", "spent: 7.1", "spent, over: 7.1")
	rests(t, "at the limit", d, s)
}

// P7.1: its own mark isn't in its way: what is looked at there is looked at,
// and what bears it at its entry's turn is put, or released.
func TestOwnMark(t *testing.T) {
	for _, x := range []struct {
		what string
		e    tx.Entry
		want []string
	}{
		{"written", writes(0, 1, 5), []string{"open: 7.1*4", "done: 7.1*4", "done, over: 5.2"}},
		{"read", reads(0, 1), []string{"open: 7.1*4", "done: 7.1*4", "done, over: 7.1"}},
		{"another version", writes(0, 0, 5), []string{"failed: 7.1*4", "failed, over: 7.1"}},
		{"another version, read", reads(0, 2), []string{"failed: 7.1*4", "failed, over: 7.1"}},
	} {
		s := store(t, 9, api.Cell{Value: 7, Version: 1, Mark: 4})
		d := New(4, []tx.Entry{x.e})
		goes(t, x.what, d, s, x.want...)
		rests(t, x.what, d, s)
	}
	s := store(t, 1, api.Cell{Value: 7, Version: 1, Mark: 4}, api.Cell{Value: 8, Mark: 4})
	d := New(4, []tx.Entry{writes(0, 1, 5), writes(1, 0, 6)})
	goes(t, "at the limit, another one behind it", d, s,
		"spent: 7.1*4 8.0*4", "spent: 7.1 8.0*4", "spent, over: 7.1 8.0")
	rests(t, "at the limit, another one behind it", d, s)
}

// P7.1: two descriptors of the same mark aren't in each other's way; who comes
// first puts, and takes the mark with it.
func TestSameMark(t *testing.T) {
	s := fresh(t, 2)
	a := New(3, []tx.Entry{writes(0, 0, 5), reads(1, 0)})
	b := New(3, []tx.Entry{writes(0, 0, 6), writes(1, 0, 7)})
	goes(t, "a", a, s, "open: 0.0*3 0.0")
	goes(t, "b", b, s, "open: 0.0*3 0.0", "open: 0.0*3 0.0*3")
	goes(t, "a", a, s, "open: 0.0*3 0.0*3", "done: 0.0*3 0.0*3")
	goes(t, "b", b, s, "done: 0.0*3 0.0*3")
	goes(t, "a", a, s, "done: 5.1 0.0*3")
	goes(t, "b", b, s, "done: 5.1 0.0*3", "done, over: 5.1 7.1")
	goes(t, "a", a, s, "done, over: 5.1 7.1")
	rests(t, "a", a, s)
	rests(t, "b", b, s)
	c := New(3, []tx.Entry{reads(0, 1), writes(1, 1, 8)})
	goes(t, "c", c, s, "open: 5.1*3 7.1", "open: 5.1*3 7.1*3")
	rests(t, "a, its cells of its mark again", a, s)
	e := New(3, []tx.Entry{writes(0, 0, 9), writes(1, 1, 9)})
	goes(t, "e", e, s, "failed: 5.1*3 7.1*3", "failed: 5.1 7.1*3", "failed, over: 5.1 7.1")
	goes(t, "c", c, s, "done: 5.1 7.1", "done: 5.1 7.1", "done, over: 5.1 7.1")
	rests(t, "c", c, s)
}

// P7.1: what isn't Open passes a cell that bears another mark, or none: it is
// in nobody's way, and nothing is done to it.
func TestLostCells(t *testing.T) {
	s := fresh(t, 3)
	d := New(1, []tx.Entry{writes(0, 0, 5), reads(1, 0), writes(2, 0, 6)})
	goes(t, "reserved", d, s, "open: 0.0*1 0.0 0.0", "open: 0.0*1 0.0*1 0.0",
		"open: 0.0*1 0.0*1 0.0*1", "done: 0.0*1 0.0*1 0.0*1")
	s.Release(0, 1)
	s.Release(1, 1)
	s.Reserve(0, 0, 2)
	goes(t, "taken by another one", d, s, "done: 0.0*2 0.0 0.0*1", "done: 0.0*2 0.0 0.0*1",
		"done, over: 0.0*2 0.0 6.1")
	rests(t, "taken by another one", d, s)
}

// P7.1: behind the last step nothing is done, though a cell bears its mark.
func TestBehindTheLast(t *testing.T) {
	for _, e := range []tx.Entry{writes(0, 0, 5), reads(0, 0), reads(0, 3), reads(9, 0)} {
		s := fresh(t, 1)
		d := New(1, []tx.Entry{e})
		for range 3 {
			d.Step(s)
		}
		c, err := s.Read(0)
		if err != nil || s.Reserve(0, c.Version, 1) != nil {
			t.Fatal("it can't be reserved again:", c, err)
		}
		rests(t, fmt.Sprintf("%+v", e), d, s)
	}
}

// P7.2: a list that is handed in is neither changed nor kept, nor what lies
// behind its end.
func TestListIsItsOwn(t *testing.T) {
	s := fresh(t, 3)
	room := []tx.Entry{writes(0, 0, 5), reads(1, 0), writes(2, 0, 6), writes(1, 0, 7)}
	was := slices.Clone(room)
	d := New(1, room[:2])
	for _, w := range []string{"open: 0.0*1 0.0 0.0", "open: 0.0*1 0.0*1 0.0",
		"done: 0.0*1 0.0*1 0.0", "done: 5.1 0.0*1 0.0", "done, over: 5.1 0.0 0.0"} {
		if !slices.Equal(room, was) {
			t.Fatalf("%v, where %v was handed in", room, was)
		}
		goes(t, "a part of a list", d, s, w)
	}
	l := []tx.Entry{writes(0, 1, 8), writes(1, 0, 9)}
	d = New(2, l)
	a := New(3, l)
	change := func() {
		for i := range l {
			l[i] = writes(2, 7, 77)
		}
	}
	change()
	goes(t, "changed behind New", d, s, "open: 5.1*2 0.0 0.0", "open: 5.1*2 0.0*2 0.0",
		"done: 5.1*2 0.0*2 0.0")
	l = l[:0]
	goes(t, "cut behind New", d, s, "done: 8.2 0.0*2 0.0", "done, over: 8.2 9.1 0.0")
	goes(t, "another one of the same list", a, s, "failed: 8.2 9.1 0.0")
}

// P7.1: descriptors of the same entries are each their own.
func TestDescriptorsAreTheirOwn(t *testing.T) {
	s := fresh(t, 1)
	l := []tx.Entry{writes(0, 0, 5)}
	a, b, c := New(1, l), New(2, l), New(3, nil)
	goes(t, "a", a, s, "open: 0.0*1", "done: 0.0*1")
	goes(t, "b", b, s, "1 is in the way, open: 0.0*1")
	goes(t, "c", c, s, "done, over: 0.0*1")
	goes(t, "a", a, s, "done, over: 5.1")
	goes(t, "b", b, s, "failed: 5.1", "failed, over: 5.1")
	if a.Status() != Done || b.Status() != Failed || c.Status() != Done {
		t.Error(a.Status(), b.Status(), c.Status())
	}
	if a.Mark() != 1 || b.Mark() != 2 || c.Mark() != 3 {
		t.Error(a.Mark(), b.Mark(), c.Mark())
	}
}
