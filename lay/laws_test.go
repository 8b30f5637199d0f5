package lay

import (
	"errors"
	"math"
	"slices"
	"testing"

	"padstone/api"
	"padstone/tx"
	"padstone/view"
	"padstone/word"
)

// dice are numbers from a short rule: the same ones in each run.
type dice uint64

func (d *dice) roll(n int) int {
	*d = *d*6364136223846793005 + 1442695040888963407
	return int(uint64(*d) >> 33 % uint64(n))
}

// of is one of a list.
func (d *dice) of(l []int) int { return l[d.roll(len(l))] }

// The chapter's words once more, with slots and objects as lists of their own.

// model is what words are to tell.
type model struct {
	slots [96][5]uint64
	objs  [32][8]uint64
	used  [2]uint64
}

// modelOf is that of words, taken one behind the other.
func modelOf(p view.Plain) model {
	var m model
	for i := range m.slots {
		p = p[copy(m.slots[i][:], p):]
	}
	for i := range m.objs {
		p = p[copy(m.objs[i][:], p):]
	}
	copy(m.used[:], p)
	return m
}

// has tells whether there is such an object, and field.
func (m *model) has(obj, field int) bool { return obj >= 0 && obj < 32 && field >= 0 && field < 8 }

// field is the number that a field is to tell.
func (m *model) field(obj, field int) int {
	if !m.has(obj, field) || m.objs[obj][field] > 4611686018427387904 {
		return 0
	}
	return int(m.objs[obj][field])
}

// is tells whether an object is to be of a kind.
func (m *model) is(obj, kind int) bool {
	return m.has(obj, 0) && kind >= 0 && m.objs[obj][0] == uint64(kind)
}

// put is what Put is to do.
func (m *model) put(obj, field, n int) {
	if m.has(obj, field) && n >= 0 {
		m.objs[obj][field] = uint64(n)
	}
}

// take is what Take is to do, one slot, or object, behind the other.
func (m *model) take(slots, objs int) (int, int, error) {
	if slots < 0 || objs < 0 {
		return 0, 0, api.ErrArg
	}
	then := [2]uint64{min(m.used[0], 96), min(m.used[1], 32)}
	first := then
	for k, n := range []int{slots, objs} {
		for ; n > 0; n-- {
			if then[k] == []uint64{96, 32}[k] {
				return 0, 0, api.ErrFull
			}
			then[k]++
		}
	}
	m.used = then
	return int(first[0]), int(first[1]), nil
}

// agree holds what all calls that only read tell against the model.
func agree(t *testing.T, v view.View, m *model, obj, field, kind int) {
	t.Helper()
	if n := Field(v, obj, field); n != m.field(obj, field) {
		t.Fatalf("Field of %d, %d: %d, want %d", obj, field, n, m.field(obj, field))
	}
	want := m.field(obj, field) - 1
	if n, ok := Ref(v, obj, field); ok != (want >= 0 && want < 32) || ok && n != want || !ok && n != 0 {
		t.Fatalf("Ref of %d, %d: %d, %v, of word %d", obj, field, n, ok, want+1)
	}
	if is := Is(v, obj, kind); is != m.is(obj, kind) {
		t.Fatalf("Is of %d, %d: %v", obj, kind, is)
	}
	if s, o := Used(v); s != int(min(m.used[0], 96)) || o != int(min(m.used[1], 32)) {
		t.Fatalf("Used: %d, %d, of words %v", s, o, m.used)
	}
}

// P9.1 to P9.4, P1 of the whole: whatever is put and taken, of any words.
func TestLaws(t *testing.T) {
	var d dice
	edges := []int{-1, 0, 1, 7, 8, 31, 32, 33, 1 << 61, math.MaxInt, math.MinInt}
	words := []uint64{0, 1, 5, 31, 32, 33, 95, 96, 97, 1 << 62, 1<<62 + 1, 1 << 63, math.MaxUint64}
	numbers := []int{0, 1, 2, 8, 31, 32, 33, 1 << 62, 1<<62 + 1, math.MaxInt, -1, -8, math.MinInt}
	for round := range 300 {
		p := make(view.Plain, Size())
		if round%3 > 0 {
			for i := range p {
				p[i] = words[d.roll(len(words))]
			}
		}
		if round%2 > 0 {
			p[slotsWord], p[objsWord] = 0, 0
		}
		m := modelOf(p)
		for range 100 {
			obj, field := d.roll(32), d.roll(8)
			if d.roll(4) == 0 {
				obj, field = d.of(edges), d.of(edges)
			}
			switch d.roll(3) {
			case 0:
				n := d.of(numbers)
				Put(p, obj, field, n)
				m.put(obj, field, n)
			case 1:
				slots, objs := d.roll(12)-1, d.roll(5)-1
				s, o, err := Take(p, slots, objs)
				takes(t, "Take", s, o, err)(m.take(slots, objs))
			}
			agree(t, p, &m, obj, field, d.of(numbers))
			if modelOf(p) != m {
				t.Fatalf("round %d: words changed that were to stay, or the other way round", round)
			}
		}
	}
}

// P9.4: a word that is changed is that of one slot's field, or one object's, or
// tells what is used: of all calls those alone tell something else then.
func TestLawsOfWords(t *testing.T) {
	for at := range Size() {
		p := filled()
		p[at] = 3
		changed := 0
		for obj := range 32 {
			for field := range 8 {
				if n, ok := Obj(obj, field); Field(p, obj, field) == 3 != (ok && n == at) {
					t.Fatalf("word %d, changed: field %d of object %d", at, field, obj)
				}
			}
		}
		for i := range 96 {
			for field := range 5 {
				if n, ok := Slot(i, field); ok && n == at {
					changed++
				}
			}
		}
		s, o := Used(p)
		if changed != 0 != (at < 480) || changed > 1 || s == 3 != (at == 736) || o == 3 != (at == 737) {
			t.Fatalf("word %d, changed: of %d slots' fields, used %d, %d", at, changed, s, o)
		}
	}
}

// P9.2: what is taken, of a fresh view, is never taken twice, and all there is.
func TestLawsOfTake(t *testing.T) {
	var d dice
	for range 200 {
		p := make(view.Plain, Size())
		slots, objs := 0, 0
		for range 60 {
			s, o := d.roll(9), d.roll(3)
			first, obj, err := Take(p, s, o)
			if slots+s > 96 || objs+o > 32 {
				takes(t, "more than are unused", 0, 0, api.ErrFull)(first, obj, err)
				continue
			}
			takes(t, "what is unused", slots, objs, nil)(first, obj, err)
			slots, objs = slots+s, objs+o
		}
		if s, o := Used(p); s != slots || o != objs {
			t.Fatalf("%d, %d are used, want %d, %d", s, o, slots, objs)
		}
	}
}

// P9.1 to P9.3: of a view that isn't a plain one, a record (layer 6) that learns
// a store's cells, all comes to what a plain view does.
func TestOfRecords(t *testing.T) {
	f := func(v view.View) {
		Put(v, 3, F2, 32)
		n, _ := Ref(v, 3, F2)
		slot, obj, err := Take(v, 7, 2)
		Put(v, obj, Kind, api.CNode)
		Put(v, obj, F1, slot)
		if _, _, err := Take(v, 96, 0); errors.Is(err, api.ErrFull) && Is(v, obj, api.CNode) {
			Put(v, n, F7, Field(v, obj, F1)+1)
		}
		if err != nil {
			Put(v, 0, F7, 99)
		}
	}
	s, err := word.New(Size(), api.MaxVersion)
	if err != nil {
		t.Fatal(err)
	}
	for i, w := range used(2, 1) {
		s.Set(i, w)
	}
	x := tx.New(s.Len())
	for i, ok := x.Run(f); !ok; i, ok = x.Run(f) {
		c, _ := s.Read(i)
		x.Learn(i, c)
	}
	got := slices.Clone(view.Plain(s.Values()))
	for _, e := range x.Entries() {
		got[e.Cell] = e.New
	}
	want := used(2, 1)
	f(want)
	stays(t, "a record", got, want)
	stays(t, "a plain view", want, func() view.Plain {
		p := used(9, 3)
		p[480+8*3+2], p[480+8], p[480+8+1], p[480+8*31+7] = 32, 2, 2, 3
		return p
	}())
}
