package lay

import (
	"math"
	"slices"
	"testing"

	"padstone/api"
	"padstone/view"
)

// Where the two words behind all objects are, as the chapter counts.
const (
	slotsWord = 96*5 + 32*8
	objsWord  = slotsWord + 1
)

// far are numbers that no slot, object, or field has. Five, or eight times some
// of them wraps round, to a word that is there.
var far = []int{-1, -2, -5, -8, -96, -1 << 32, -1 << 61, math.MinInt + 1, math.MinInt,
	97, 100, 480, 737, 1 << 32, 1<<32 + 1, 1 << 60, 1 << 61, 1<<61 + 1, 1 << 62,
	3689348814741910323, 3689348814741910324, math.MaxInt - 1, math.MaxInt}

// great are words that are no number of a field.
var great = []uint64{1<<62 + 1, 1<<62 + 5, 1 << 63, 1<<63 + 1, 1<<63 + 5, math.MaxUint64 - 31, math.MaxUint64}

// filled is a plain view of all words, each unlike the others, as few slots and
// objects used as that lets be.
func filled() view.Plain {
	p := make(view.Plain, 738)
	for i := range p {
		p[i] = uint64(1000 + i)
	}
	p[slotsWord], p[objsWord] = 2, 1
	return p
}

// used is a filled view whose two words behind all objects are those.
func used(slots, objs uint64) view.Plain {
	p := filled()
	p[slotsWord], p[objsWord] = slots, objs
	return p
}

// with is a filled view that has that word there.
func with(at int, w uint64) view.Plain {
	p := filled()
	p[at] = w
	return p
}

// stays holds that a view has just the words that it had.
func stays(t *testing.T, what string, p, before view.Plain) {
	t.Helper()
	if !slices.Equal(p, before) {
		t.Errorf("%s: words changed: %v", what, view.Changed(before, p))
	}
}

// there holds a word's number against what it is to be.
func there(t *testing.T, what string, want int) func(int, bool) {
	t.Helper()
	return func(n int, ok bool) {
		t.Helper()
		if n != want || !ok {
			t.Errorf("%s: %d, %v, want %d, true", what, n, ok, want)
		}
	}
}

// none holds that there is nothing.
func none(t *testing.T, what string) func(int, bool) {
	t.Helper()
	return func(n int, ok bool) {
		t.Helper()
		if n != 0 || ok {
			t.Errorf("%s: %d, %v, want 0, false", what, n, ok)
		}
	}
}

// takes holds what a Take tells against what it is to tell.
func takes(t *testing.T, what string, slot, obj int, want error) func(int, int, error) {
	t.Helper()
	return func(s, o int, err error) {
		t.Helper()
		if s != slot || o != obj || err != want {
			t.Errorf("%s: %d, %d, %v, want %d, %d, %v", what, s, o, err, slot, obj, want)
		}
	}
}

// The chapter's example.
func TestExample(t *testing.T) {
	there(t, "the parent of slot 1", 6)(Slot(1, Parent))
}

// P9.1: the fields' numbers.
func TestFields(t *testing.T) {
	if !slices.Equal([]int{Word, Parent, First, Next, Prev}, []int{0, 1, 2, 3, 4}) {
		t.Error("a slot's:", Word, Parent, First, Next, Prev)
	}
	if !slices.Equal([]int{Kind, F1, F2, F3, F4, F5, F6, F7}, []int{0, 1, 2, 3, 4, 5, 6, 7}) {
		t.Error("an object's:", Kind, F1, F2, F3, F4, F5, F6, F7)
	}
}

// P9.1: slots have five words each, from word 0 on.
func TestSlot(t *testing.T) {
	for _, x := range []struct {
		what           string
		i, field, want int
	}{
		{"the first", 0, Word, 0},
		{"the first one's last", 0, Prev, 4},
		{"the second", 1, Word, 5},
		{"the second one's First", 1, First, 7},
		{"the second one's Next", 1, Next, 8},
		{"the second one's last", 1, Prev, 9},
		{"the third", 2, Word, 10},
		{"a middle one", 47, Parent, 236},
		{"the last one but one's last", 94, Prev, 474},
		{"the last", 95, Word, 475},
		{"the last one's Parent", 95, Parent, 476},
		{"the last one's last", 95, Prev, 479},
	} {
		there(t, x.what, x.want)(Slot(x.i, x.field))
	}
}

// P9.1: objects have eight words each, behind all slots.
func TestObj(t *testing.T) {
	for _, x := range []struct {
		what           string
		i, field, want int
	}{
		{"the first", 0, Kind, 480},
		{"the first one's F1", 0, F1, 481},
		{"the first one's last", 0, F7, 487},
		{"the second", 1, Kind, 488},
		{"the second one's F6", 1, F6, 494},
		{"the third", 2, Kind, 496},
		{"a middle one", 15, F4, 604},
		{"the last one but one's last", 30, F7, 727},
		{"the last", 31, Kind, 728},
		{"the last one's F1", 31, F1, 729},
		{"the last one's last", 31, F7, 735},
	} {
		there(t, x.what, x.want)(Obj(x.i, x.field))
	}
}

// noWords holds that there is no word of what isn't there, of so many that are,
// with so many fields each.
func noWords(t *testing.T, what string, call func(i, field int) (int, bool), many, fields int) {
	t.Helper()
	for _, i := range append([]int{many, many + 1, 95 + many}, far...) {
		for _, field := range append([]int{0, 1, fields - 1, fields}, far...) {
			none(t, "not "+what)(call(i, field))
		}
	}
	for _, field := range append([]int{fields, fields + 1, 2*fields - 1, 2 * fields}, far...) {
		for i := range many {
			none(t, "no field of "+what)(call(i, field))
		}
	}
}

// P9.1, P1 of the whole: of no slot, and of no field of one, there is no word.
func TestNoSlot(t *testing.T) { noWords(t, "a slot", Slot, 96, 5) }

// P9.1, P1 of the whole: of no object, and of no field of one, there is no word.
func TestNoObj(t *testing.T) { noWords(t, "an object", Obj, 32, 8) }

// P9.4: words of unlike slots, objects and fields are unlike, and below Size,
// all of them but the two behind all objects; of one they lie in a row.
func TestWordsAreUnlike(t *testing.T) {
	var l []int
	add := func(n int, ok bool) {
		if !ok {
			t.Error("a word that isn't there, behind", l)
		}
		l = append(l, n)
	}
	for i := range 96 {
		for field := range 5 {
			add(Slot(i, field))
		}
	}
	for i := range 32 {
		for field := range 8 {
			add(Obj(i, field))
		}
	}
	for i, n := range l {
		if n != i {
			t.Errorf("the words' number %d is %d", i, n)
		}
	}
	if len(l) != 736 || Size() != len(l)+2 {
		t.Errorf("%d words of slots and objects, of %d in all", len(l), Size())
	}
}

// P9.1: Size, which a store may have.
func TestSize(t *testing.T) {
	if Size() != 738 || Size() > api.MaxCells {
		t.Error(Size())
	}
}

// P9.1: the two words behind all objects, at most MaxSlots and MaxObjs.
func TestUsed(t *testing.T) {
	for _, x := range []struct {
		slots, objs         uint64
		wantSlots, wantObjs int
	}{
		{0, 0, 0, 0},
		{1, 0, 1, 0},
		{0, 1, 0, 1},
		{2, 3, 2, 3},
		{31, 31, 31, 31},
		{32, 32, 32, 32},
		{33, 33, 33, 32},
		{95, 0, 95, 0},
		{96, 32, 96, 32},
		{97, 33, 96, 32},
		{0, 97, 0, 32},
		{97, 0, 96, 0},
		{1 << 32, 1 << 32, 96, 32},
		{1 << 62, 1<<62 + 1, 96, 32},
		{1<<63 - 1, 5, 96, 5},
		{1 << 63, 7, 96, 7},
		{7, 1 << 63, 7, 32},
		{1<<63 + 1, 1<<63 + 1, 96, 32},
		{math.MaxUint64, math.MaxUint64, 96, 32},
		{math.MaxUint64, 0, 96, 0},
		{0, math.MaxUint64, 0, 32},
	} {
		p := used(x.slots, x.objs)
		if s, o := Used(p); s != x.wantSlots || o != x.wantObjs {
			t.Errorf("words %d, %d: %d, %d, want %d, %d", x.slots, x.objs, s, o, x.wantSlots, x.wantObjs)
		}
		stays(t, "Used", p, used(x.slots, x.objs))
	}
}

// P9.1: of a view that has fewer words than Size those that lack are 0; words
// behind Size aren't looked at.
func TestUsedOfOtherViews(t *testing.T) {
	all := append(used(3, 4), 9, 9, 9)
	for _, x := range []struct{ words, slots, objs int }{
		{0, 0, 0}, {1, 0, 0}, {735, 0, 0}, {736, 0, 0}, {737, 3, 0}, {738, 3, 4}, {739, 3, 4}, {741, 3, 4},
	} {
		if s, o := Used(all[:x.words]); s != x.slots || o != x.objs {
			t.Errorf("of %d words: %d, %d, want %d, %d", x.words, s, o, x.slots, x.objs)
		}
	}
	if s, o := Used(view.Plain(nil)); s != 0 || o != 0 {
		t.Error("of no words:", s, o)
	}
}

// P9.2: what several Takes tell, one behind the other, and what is used then.
func TestTakes(t *testing.T) {
	p := make(view.Plain, 738)
	for _, x := range []struct {
		what        string
		slots, objs int
		slot, obj   int
		want        error
	}{
		{"one of each", 1, 1, 0, 0, nil},
		{"some of each", 4, 2, 1, 1, nil},
		{"slots alone", 32, 0, 5, 3, nil},
		{"objects alone", 0, 5, 37, 3, nil},
		{"nothing", 0, 0, 37, 8, nil},
		{"nothing, again", 0, 0, 37, 8, nil},
		{"more slots than are unused, by one", 60, 1, 0, 0, api.ErrFull},
		{"more objects than are unused, by one", 1, 25, 0, 0, api.ErrFull},
		{"below 0", -1, 1, 0, 0, api.ErrArg},
		{"just what is unused, behind errors", 59, 24, 37, 8, nil},
		{"nothing, where all is used", 0, 0, 96, 32, nil},
		{"a slot, where all is used", 1, 0, 0, 0, api.ErrFull},
		{"an object, where all is used", 0, 1, 0, 0, api.ErrFull},
	} {
		before := slices.Clone(p)
		takes(t, x.what, x.slot, x.obj, x.want)(Take(p, x.slots, x.objs))
		if x.want == nil {
			before[slotsWord] += uint64(x.slots)
			before[objsWord] += uint64(x.objs)
		}
		stays(t, x.what, p, before)
	}
	if s, o := Used(p); s != 96 || o != 32 {
		t.Error("all are used:", s, o)
	}
}

// P9.2: of however many that are used just as many as are unused are taken, and
// not one more, of either.
func TestTakeTheRest(t *testing.T) {
	for s := range 97 {
		for o := range 33 {
			p := used(uint64(s), uint64(o))
			takes(t, "one slot more", 0, 0, api.ErrFull)(Take(p, 97-s, 32-o))
			takes(t, "one object more", 0, 0, api.ErrFull)(Take(p, 96-s, 33-o))
			takes(t, "one more of both", 0, 0, api.ErrFull)(Take(p, 97-s, 33-o))
			takes(t, "one slot more alone", 0, 0, api.ErrFull)(Take(p, 97-s, 0))
			takes(t, "one object more alone", 0, 0, api.ErrFull)(Take(p, 0, 33-o))
			stays(t, "one more than are unused", p, used(uint64(s), uint64(o)))
			takes(t, "just as many", s, o, nil)(Take(p, 96-s, 32-o))
			stays(t, "just as many", p, used(96, 32))
		}
	}
}

// P9.2, R3: the largest numbers are more than are unused, however many are used.
func TestTakeLargest(t *testing.T) {
	for _, u := range [][2]uint64{{0, 0}, {1, 1}, {96, 32}, {math.MaxUint64, math.MaxUint64}} {
		for _, n := range []int{97, 98, 128, 1 << 32, 1 << 62, math.MaxInt - 96, math.MaxInt - 1, math.MaxInt} {
			p := used(u[0], u[1])
			takes(t, "the largest of slots", 0, 0, api.ErrFull)(Take(p, n, 0))
			takes(t, "the largest of objects", 0, 0, api.ErrFull)(Take(p, 0, n))
			takes(t, "the largest of both", 0, 0, api.ErrFull)(Take(p, n, n))
			stays(t, "the largest", p, used(u[0], u[1]))
		}
	}
}

// P9.2, R1, R3: numbers below 0, ahead of more than are unused.
func TestTakeBelow0(t *testing.T) {
	numbers := []int{0, 1, 32, 96, 97, math.MaxInt, -1, -96, math.MinInt}
	for _, u := range [][2]uint64{{0, 0}, {5, 5}, {96, 32}, {97, 33}, {math.MaxUint64, 1 << 63}} {
		for _, low := range []int{-1, -2, -32, -96, -1 << 32, math.MinInt + 1, math.MinInt} {
			for _, n := range numbers {
				p := used(u[0], u[1])
				takes(t, "slots below 0", 0, 0, api.ErrArg)(Take(p, low, n))
				takes(t, "objects below 0", 0, 0, api.ErrArg)(Take(p, n, low))
				stays(t, "below 0", p, used(u[0], u[1]))
			}
		}
	}
}

// P9.2: where a word tells more than there may be, all of those are used.
func TestTakeOfTooManyUsed(t *testing.T) {
	for _, w := range []uint64{97, 128, 1 << 32, 1 << 62, 1<<63 - 1, 1 << 63, math.MaxUint64 - 95, math.MaxUint64} {
		p := used(w, 3)
		takes(t, "a slot of too many", 0, 0, api.ErrFull)(Take(p, 1, 0))
		takes(t, "a slot of too many, an object", 0, 0, api.ErrFull)(Take(p, 1, 1))
		stays(t, "slots of too many", p, used(w, 3))
		takes(t, "an object, of too many slots none", 96, 3, nil)(Take(p, 0, 1))
		stays(t, "an object, of too many slots none", p, used(96, 4))

		p = used(5, w)
		takes(t, "an object of too many", 0, 0, api.ErrFull)(Take(p, 0, 1))
		takes(t, "an object of too many, a slot", 0, 0, api.ErrFull)(Take(p, 1, 1))
		stays(t, "objects of too many", p, used(5, w))
		takes(t, "a slot, of too many objects none", 5, 32, nil)(Take(p, 1, 0))
		stays(t, "a slot, of too many objects none", p, used(6, 32))

		p = used(w, w)
		takes(t, "nothing of too many", 96, 32, nil)(Take(p, 0, 0))
		if s, o := Used(p); s != 96 || o != 32 {
			t.Errorf("of %d, behind a Take: %d, %d are used", w, s, o)
		}
	}
	takes(t, "an object where 33 slots are used", 33, 31, nil)(Take(used(33, 31), 0, 1))
	takes(t, "an object where 33 are used", 0, 0, api.ErrFull)(Take(used(33, 33), 0, 1))
}

// P9.2, P1 of the whole: of a view without those words as many are unused as
// there may be, each time.
func TestTakeOfShortViews(t *testing.T) {
	for _, p := range []view.Plain{nil, {}, make(view.Plain, 736)} {
		for range 2 {
			takes(t, "all of a short view", 0, 0, nil)(Take(p, 96, 32))
			takes(t, "a slot more of a short view", 0, 0, api.ErrFull)(Take(p, 97, 0))
		}
	}
	p := make(view.Plain, 737)
	takes(t, "of a view that has one of them", 0, 0, nil)(Take(p, 7, 8))
	takes(t, "of it, again", 7, 0, nil)(Take(p, 7, 8))
}

// P9.3: the word of a field, as a number.
func TestField(t *testing.T) {
	p := filled()
	for obj := range 32 {
		for field := range 8 {
			if n := Field(p, obj, field); n != 1000+480+8*obj+field {
				t.Errorf("field %d of object %d: %d", field, obj, n)
			}
		}
	}
	stays(t, "Field", p, filled())
}

// P9.3: words up to 2^62 are numbers, those above are 0.
func TestFieldNumbers(t *testing.T) {
	for _, x := range [][2]int{{0, Kind}, {0, F1}, {3, F2}, {31, F7}} {
		at := 480 + 8*x[0] + x[1]
		for _, n := range []int{0, 1, 8, 32, 33, 1 << 31, 1 << 32, 1<<32 + 1, 1<<62 - 1, 1 << 62} {
			if got := Field(with(at, uint64(n)), x[0], x[1]); got != n {
				t.Errorf("word %d: %d", n, got)
			}
		}
		for _, w := range great {
			if got := Field(with(at, w), x[0], x[1]); got != 0 {
				t.Errorf("word %d: %d", w, got)
			}
		}
	}
}

// P9.3, P1 of the whole: of no such object, or field, it is 0, whatever lies
// where it would be.
func TestFieldOfNone(t *testing.T) {
	p := append(filled(), filled()...)
	for _, obj := range append([]int{32, 33, -60}, far...) {
		for _, field := range []int{0, 1, 4, 7, 8, -1, math.MaxInt} {
			if n := Field(p, obj, field); n != 0 {
				t.Errorf("field %d of no object %d: %d", field, obj, n)
			}
		}
	}
	for _, field := range append([]int{8, 9, 15, 16}, far...) {
		for obj := range 32 {
			if n := Field(p, obj, field); n != 0 {
				t.Errorf("no field %d of object %d: %d", field, obj, n)
			}
		}
	}
	if n := Field(p[:484], 0, F4); n != 0 {
		t.Error("a field that a short view lacks:", n)
	}
}

// P9.3: the object that a field tells, one less than it, if there is one.
func TestRef(t *testing.T) {
	for _, x := range [][2]int{{0, Kind}, {0, F1}, {3, F2}, {31, F7}} {
		at := 480 + 8*x[0] + x[1]
		for n := 1; n <= 32; n++ {
			p := with(at, uint64(n))
			there(t, "an object that a field tells", n-1)(Ref(p, x[0], x[1]))
			stays(t, "Ref", p, with(at, uint64(n)))
		}
		for _, w := range append([]uint64{0, 33, 34, 64, 96, 1 << 32, 1<<32 + 1, 1<<62 - 1, 1 << 62}, great...) {
			none(t, "a word that tells none")(Ref(with(at, w), x[0], x[1]))
		}
	}
}

// P9.3, P1 of the whole: a field of no such object, or no such field, tells none.
func TestRefOfNone(t *testing.T) {
	p := make(view.Plain, 2000)
	for i := range p {
		p[i] = 1
	}
	for _, obj := range append([]int{32, 33, -60}, far...) {
		for _, field := range []int{0, 1, 7, 8, -1} {
			none(t, "of no object")(Ref(p, obj, field))
		}
	}
	for _, field := range append([]int{8, 9, 15}, far...) {
		for _, obj := range []int{0, 1, 30, 31} {
			none(t, "of no field")(Ref(p, obj, field))
		}
	}
	there(t, "a field that is there", 0)(Ref(p, 31, F7))
	none(t, "of a view without words")(Ref(view.Plain{}, 0, F1))
}

// P9.3: a field becomes that number, and no other word is changed.
func TestPut(t *testing.T) {
	for obj := range 32 {
		for field := range 8 {
			for _, n := range []int{0, 1, 32, 1<<62 + 1, math.MaxInt} {
				p := filled()
				Put(p, obj, field, n)
				stays(t, "Put", p, with(480+8*obj+field, uint64(n)))
			}
		}
	}
	p := filled()
	Put(p, 3, F2, 1<<62)
	if n := Field(p, 3, F2); n != 1<<62 {
		t.Error("the greatest number that is told:", n)
	}
	Put(p, 3, F2, math.MaxInt)
	if n := Field(p, 3, F2); n != 0 {
		t.Error("a number above those that are told:", n)
	}
	Put(p, 3, F2, 4)
	if n := Field(p, 3, F2); n != 4 {
		t.Error("put behind that:", n)
	}
}

// P9.3, P1 of the whole: nothing is put of numbers below 0, nor where there is
// no such object, or field.
func TestPutNothing(t *testing.T) {
	long := append(filled(), filled()...)
	p := slices.Clone(long)
	for _, n := range []int{-1, -2, -1 << 32, math.MinInt + 1, math.MinInt} {
		for obj := range 32 {
			for field := range 8 {
				Put(p, obj, field, n)
			}
		}
	}
	stays(t, "numbers below 0", p, long)
	for _, n := range []int{0, 5, math.MaxInt, -1} {
		for _, obj := range append([]int{32, 33, -60}, far...) {
			for _, field := range []int{0, 1, 7, 8, -1, math.MaxInt, math.MinInt} {
				Put(p, obj, field, n)
			}
		}
		for _, field := range append([]int{8, 9, 15}, far...) {
			for obj := range 32 {
				Put(p, obj, field, n)
			}
		}
	}
	stays(t, "no such object, or field", p, long)
	short := filled()[:484]
	Put(short, 0, F4, 9)
	Put(short, 31, F7, 9)
	stays(t, "fields that a short view lacks", short, filled()[:484])
}

// P9.3: whether an object is of a kind: its Kind's word is just that number.
func TestIs(t *testing.T) {
	kinds := []int{0, 1, 2, 3, 4, 5, 6, 7, 8, 9, 15, 255, 256, 1 << 32, 1<<32 + 5, 1 << 62, 1<<62 + 1,
		math.MaxInt}
	for _, obj := range []int{0, 1, 17, 31} {
		for _, kind := range kinds {
			p := with(480+8*obj, uint64(kind))
			for _, asked := range kinds {
				if is := Is(p, obj, asked); is != (asked == kind) {
					t.Errorf("object %d of kind %d, asked for %d: %v", obj, kind, asked, is)
				}
			}
			stays(t, "Is", p, with(480+8*obj, uint64(kind)))
		}
	}
	p := make(view.Plain, 738)
	for obj := range 32 {
		if !Is(p, obj, api.Null) || Is(p, obj, api.Untyped) {
			t.Error("a fresh object's kind:", obj)
		}
	}
}

// P9.3: words that are equal to a kind only as a signed number, or by some of
// their bits, or that tell no number, are of no kind.
func TestIsOfGreatWords(t *testing.T) {
	for _, w := range great {
		for _, kind := range []int{0, 1, 5, 8, -1, -5, -8, -32, math.MinInt, math.MinInt + 1, math.MinInt + 5} {
			if Is(with(480+8*4, w), 4, kind) {
				t.Errorf("word %d is of kind %d", w, kind)
			}
		}
		if k := int(w); k < 0 && Is(with(480+8*4, w), 4, k) {
			t.Errorf("word %d is of kind %d", w, k)
		}
	}
}

// P9.3, P1 of the whole: what is no object is of no kind.
func TestIsOfNone(t *testing.T) {
	p := make(view.Plain, 2000)
	for _, obj := range append([]int{32, 33, -60}, far...) {
		for _, kind := range []int{0, 1, 5, 8, -1, math.MinInt} {
			if Is(p, obj, kind) {
				t.Errorf("no object %d is of kind %d", obj, kind)
			}
		}
	}
	for _, kind := range []int{-1, -8, math.MinInt} {
		if Is(p, 0, kind) {
			t.Error("an object of kind 0 is of kind", kind)
		}
	}
	if !Is(view.Plain{}, 0, api.Null) || Is(view.Plain{}, 0, api.CNode) {
		t.Error("an object whose word a short view lacks")
	}
}
