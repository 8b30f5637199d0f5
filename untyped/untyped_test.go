package untyped

import (
	"errors"
	"math"
	"slices"
	"strconv"
	"testing"

	"padstone/api"
	"padstone/view"
)

// Words, as layer 9's chapter counts them: five a slot, eight an object, and two
// behind all of them.
const (
	slotWords = 5
	objWords  = 8
	manySlots = 96
	manyObjs  = 32
	objsAt    = slotWords * manySlots
	slotsUsed = objsAt + objWords*manyObjs
	objsUsed  = slotsUsed + 1
	allWords  = objsUsed + 1
)

// far are numbers that no slot, object, kind, or bits have. Five, or eight times
// some of them wraps round, to a word that is there; cut off, some are small.
var far = []int{-1, -2, -5, -8, -96, -1 << 32, -1<<32 + 3, -1 << 61, math.MinInt + 1, math.MinInt,
	96, 97, 100, 480, 737, 1 << 32, 1<<32 + 1, 1<<32 + 3, 1 << 60, 1 << 61, 1<<61 + 1, 1 << 62,
	3689348814741910323, 3689348814741910324, math.MaxInt - 1, math.MaxInt}

// noCaps are words of no capability.
var noCaps = []uint64{1 | 1<<28, 1 | 1<<12, 2 | 9<<28, 2 | 1<<32, 9, 15, 16, 128, 1 << 12, 1 << 40, 3 | 1<<40, 1 << 63, math.MaxUint64}

// thing is a kind of object, and its bits.
type thing struct{ kind, bits int }

// costs are all that there are, each with what it costs.
var costs = map[thing]int{
	{api.Untyped, 0}: 2, {api.Untyped, 1}: 3, {api.Untyped, 2}: 5, {api.Untyped, 3}: 9, {api.Untyped, 4}: 17,
	{api.Untyped, 5}: 33, {api.Untyped, 6}: 65, {api.Untyped, 7}: 129, {api.Untyped, 8}: 257,
	{api.CNode, 0}: 1, {api.CNode, 1}: 2, {api.CNode, 2}: 4, {api.CNode, 3}: 8, {api.CNode, 4}: 16, {api.CNode, 5}: 32,
	{api.Endpoint, 0}: 4, {api.Ntfn, 0}: 4, {api.Thread, 0}: 4, {api.Frame, 0}: 4, {api.Space, 0}: 4,
}

// things are all of them, in one order.
func things() []thing {
	var l []thing
	for x := range costs {
		l = append(l, x)
	}
	slices.SortFunc(l, func(a, b thing) int { return 100*(a.kind-b.kind) + a.bits - b.bits })
	return l
}

// name tells a thing.
func (x thing) name() string {
	return "kind " + strconv.Itoa(x.kind) + ", bits " + strconv.Itoa(x.bits)
}

// slots is how many slots it has.
func (x thing) slots() int {
	if x.kind == api.CNode {
		return costs[x]
	}
	return 0
}

// wordOf is a capability's word, part by part.
func wordOf(c api.Cap) uint64 {
	return uint64(c.Kind + 16*c.Rights + 128*c.Obj + 4096*c.Badge + 1<<28*c.Bits + 1<<32*c.Guard)
}

// state is what words tell: capabilities, and each slot's kids, in order; objects,
// field by field; how many slots, and objects, are used.
type state struct {
	caps        [manySlots]api.Cap
	kids        [manySlots][]int
	objs        [manyObjs][objWords]uint64
	slots, used int
}

// clone is the same, with no memory that is its.
func (s *state) clone() *state {
	c := *s
	for i, l := range s.kids {
		c.kids[i] = slices.Clone(l)
	}
	return &c
}

// words are those of it.
func (s *state) words() view.Plain {
	p := make(view.Plain, allWords)
	for i, c := range s.caps {
		p[slotWords*i] = wordOf(c)
	}
	for i, l := range s.kids {
		for n, k := range l {
			p[slotWords*k+1] = uint64(i + 1)
			if n == 0 {
				p[slotWords*i+2] = uint64(k + 1)
				continue
			}
			p[slotWords*k+4] = uint64(l[n-1] + 1)
			p[slotWords*l[n-1]+3] = uint64(k + 1)
		}
	}
	for i, o := range s.objs {
		copy(p[objsAt+objWords*i:], o[:])
	}
	p[slotsUsed], p[objsUsed] = uint64(s.slots), uint64(s.used)
	return p
}

// make is what a Retype is to make of it that tells no error: the next object, its
// fields, its capability as to's, first below from, and what is used then.
func (s *state) make(from, to int, x thing) int {
	obj := s.used
	s.objs[obj] = [objWords]uint64{uint64(x.kind)}
	switch x.kind {
	case api.Untyped:
		s.objs[obj][1] = uint64(costs[x] - 1)
	case api.CNode:
		s.objs[obj][1], s.objs[obj][2] = uint64(s.slots), uint64(x.bits)
	}
	s.objs[s.caps[from].Obj][2] += uint64(costs[x])
	s.caps[to] = api.Cap{Kind: x.kind, Rights: 7, Obj: obj}
	s.kids[from] = append([]int{to}, s.kids[from]...)
	s.slots += x.slots()
	s.used++
	return obj
}

// The slots of begun, and their object of Untyped memory.
const (
	memAt   = 9  // Untyped memory, without kids
	kidsAt  = 10 // the same memory, with kids 30, 31
	belowAt = 30 // the same memory, below 10, with kid 33
	freeAt  = 40 // nothing, and below, above, beside nothing
	hungAt  = 41 // nothing, below 10
	aboveAt = 43 // nothing, with kid 44
	mem     = 7
)

// begun are slots and objects with all that the chapter speaks of: Untyped memory
// of 400, of which 40 is used; of each kind a capability, at 50 and on, of an
// object of that number; objects from 11 on are unused, and had something there.
func begun() *state {
	s := &state{slots: 50, used: 11}
	for i := range s.objs {
		s.objs[i][0] = uint64(i)
		for field := 1; field < objWords; field++ {
			s.objs[i][field] = uint64(1000 + 10*i + field)
		}
	}
	s.objs[mem] = [objWords]uint64{api.Untyped, 400, 40, 13, 14, 15, 16, 17}
	for kind := api.CNode; kind <= api.Irq; kind++ {
		s.caps[50+kind] = api.Cap{Kind: kind, Rights: 7, Obj: kind}
		if kind == mem {
			s.caps[50+kind].Obj = 10
			s.objs[10][0] = mem
		}
	}
	for _, i := range []int{memAt, kidsAt, belowAt} {
		s.caps[i] = api.Cap{Kind: api.Untyped, Rights: 7, Obj: mem}
	}
	s.caps[31], s.caps[33], s.caps[44] = s.caps[53], s.caps[54], s.caps[55]
	s.kids[kidsAt] = []int{belowAt, 31, hungAt}
	s.kids[belowAt] = []int{33}
	s.kids[aboveAt] = []int{44}
	return s
}

// stays holds that words are just those.
func stays(t *testing.T, what string, p, want view.Plain) {
	t.Helper()
	if !slices.Equal(p, want) {
		t.Errorf("%s: words unlike those that are to be: %v, of %v", what, view.Changed(want, p), view.Changed(p, want))
	}
}

// tells holds what a Retype tells, an error itself, against what it is to tell.
func tells(t *testing.T, what string, want int, wantErr error) func(int, error) {
	t.Helper()
	return func(n int, err error) {
		t.Helper()
		if n != want || !errors.Is(err, wantErr) || wantErr == nil && err != nil {
			t.Errorf("%s: %d, %v, want %d, %v", what, n, err, want, wantErr)
		}
		if c, ok := err.(api.Code); err != nil && (!ok || c != wantErr) {
			t.Errorf("%s: %v isn't the Code itself", what, err)
		}
	}
}

// refuses holds that a Retype tells an error, and changes no word.
func refuses(t *testing.T, what string, p view.Plain, want error, from, to int, x thing) {
	t.Helper()
	before := slices.Clone(p)
	tells(t, what, 0, want)(Retype(p, from, to, x.kind, x.bits))
	stays(t, what, p, before)
}

// makes holds that a Retype tells the next object, and makes of words just what it
// is to make of them.
func makes(t *testing.T, what string, before *state, from, to int, x thing) {
	t.Helper()
	p, want := before.words(), before.clone()
	obj := want.make(from, to, x)
	tells(t, what+", "+x.name(), obj, nil)(Retype(p, from, to, x.kind, x.bits))
	stays(t, what+", "+x.name(), p, want.words())
}

// left holds what Left tells, and that it changes no word.
func left(t *testing.T, what string, p view.Plain, obj, want int) {
	t.Helper()
	before := slices.Clone(p)
	if n := Left(p, obj); n != want {
		t.Errorf("%s: %d left, want %d", what, n, want)
	}
	stays(t, what, p, before)
}

// The chapter's example.
func TestExample(t *testing.T) {
	s := begun()
	s.objs[mem] = [objWords]uint64{api.Untyped, 8}
	p := s.words()
	left(t, "ahead", p, mem, 8)
	tells(t, "an Endpoint", 11, nil)(Retype(p, memAt, freeAt, api.Endpoint, 0))
	left(t, "behind", p, mem, 4)
}

// P13.1: what each kind costs, of all bits, and that nothing else is to be had, P1
// of the whole.
func TestCost(t *testing.T) {
	kinds, bits := slices.Clone(far), slices.Clone(far)
	for i := range 40 {
		kinds, bits = append(kinds, i-8), append(bits, i-8)
	}
	found := 0
	for _, kind := range kinds {
		for _, b := range append(bits, 63, 64, 65, 127, 128, 256, 1<<32+8) {
			want, is := costs[thing{kind, b}]
			if n, ok := Cost(kind, b); n != want || ok != is {
				t.Errorf("%s: %d, %v, want %d, %v", thing{kind, b}.name(), n, ok, want, is)
			}
			if is {
				found++
			}
		}
	}
	if found != 20 {
		t.Error("there were", found)
	}
}

// P13.1: what Untyped memory has left, of which nothing, some, all is used, and, as
// words may tell, more than there is.
func TestLeft(t *testing.T) {
	for _, x := range []struct {
		size, used uint64
		want       int
	}{
		{0, 0, 0}, {1, 0, 1}, {1, 1, 0}, {256, 0, 256}, {256, 1, 255}, {256, 4, 252}, {256, 255, 1}, {256, 256, 0},
		{40, 36, 4}, {40, 40, 0}, {40, 41, 0}, {40, 80, 0}, {0, 1, 0}, {0, 1 << 62, 0}, {255, 256, 0},
		{1 << 32, 1<<32 - 1, 1}, {1<<32 + 7, 7, 1 << 32}, {7, 1<<32 + 7, 0}, {1 << 62, 0, 1 << 62},
		{1 << 62, 1, 1<<62 - 1}, {1 << 62, 1<<62 - 1, 1}, {1 << 62, 1 << 62, 0}, {1<<62 - 1, 1 << 62, 0},
		// A word above 2^62 is no field's number: lay.Field tells 0 of it.
		{1<<62 + 1, 0, 0}, {1<<62 + 1, 1, 0}, {1 << 63, 5, 0}, {math.MaxUint64, 0, 0}, {40, 1<<62 + 1, 40},
		{40, 1 << 63, 40}, {40, math.MaxUint64, 40}, {math.MaxUint64, math.MaxUint64, 0},
	} {
		for _, obj := range []int{0, mem, 31} {
			s := begun()
			s.objs[obj] = [objWords]uint64{api.Untyped, x.size, x.used, 1, 2, 3, 4, 5}
			left(t, "size "+strconv.FormatUint(x.size, 10)+", used "+strconv.FormatUint(x.used, 10), s.words(), obj, x.want)
		}
	}
}

// P13.1: what is no Untyped object has nothing left, whatever its fields are.
func TestLeftOfOthers(t *testing.T) {
	for _, kind := range []uint64{api.Null, api.CNode, api.Endpoint, api.Ntfn, api.Thread, api.Frame, api.Space, api.Irq, 9,
		1<<8 + 1, 1<<32 + 1, 1<<62 + 1, 1<<63 + 1, math.MaxUint64} {
		for obj := range manyObjs {
			s := begun()
			s.objs[obj] = [objWords]uint64{kind, 40, 8}
			left(t, "kind "+strconv.FormatUint(kind, 10), s.words(), obj, 0)
		}
	}
}

// P13.1, P1 of the whole: what isn't there has nothing left, also where the words
// beside all objects are as an Untyped one's.
func TestLeftOfNone(t *testing.T) {
	p := slices.Repeat(view.Plain{1, 9, 1, 1, 1, 1, 1, 1}, 200)
	for _, obj := range append([]int{32, 33, 64, 95, -60, -59}, far...) {
		left(t, "object "+strconv.Itoa(obj), p, obj, 0)
	}
	left(t, "the first", p, 0, 8)
	left(t, "the last", p, 31, 8)
}

// P13.2: each kind and bits that there is a cost for, of memory that stands
// anywhere, to what has nothing; all fields of the object, also where there was
// something, and what is used, and no other word.
func TestRetype(t *testing.T) {
	for _, x := range things() {
		for _, from := range []int{memAt, kidsAt, belowAt} {
			for _, to := range []int{0, freeAt, 94, 95} {
				makes(t, "from "+strconv.Itoa(from), begun(), from, to, x)
			}
		}
		// With kids alone it has neither a capability nor a Parent.
		makes(t, "to what has kids", begun(), memAt, aboveAt, x)
	}
}

// P13.2: from the first slot to the last one, and the other way round; of each
// object, to each object.
func TestEnds(t *testing.T) {
	for _, x := range things() {
		for _, ends := range [][2]int{{0, 95}, {95, 0}, {0, 1}, {1, 0}, {94, 95}, {95, 94}} {
			var s state
			s.caps[ends[0]] = api.Cap{Kind: api.Untyped, Rights: 7}
			s.objs[0], s.used = [objWords]uint64{api.Untyped, 257}, 1
			makes(t, "ends", &s, ends[0], ends[1], x)
		}
		for obj := range manyObjs {
			s := begun()
			s.caps[memAt].Obj, s.used = obj, manyObjs-1-obj
			s.objs[obj] = [objWords]uint64{api.Untyped, 300, 1}
			makes(t, "object "+strconv.Itoa(obj), s, memAt, freeAt, x)
		}
	}
}

// P13.2: a CNode begins where the slots that are used end.
func TestSlots(t *testing.T) {
	for bits := range 6 {
		for slots := range manySlots - 1<<bits + 1 {
			s := begun()
			s.slots = slots
			makes(t, "behind "+strconv.Itoa(slots), s, memAt, freeAt, thing{api.CNode, bits})
		}
	}
}

// P13.2: with each set of rights: without the one to write there is none, whatever
// the others are; what is made has all.
func TestRights(t *testing.T) {
	for rights := range 8 {
		for _, x := range things() {
			s := begun()
			s.caps[memAt].Rights = rights
			if rights&2 != 0 {
				makes(t, "rights "+strconv.Itoa(rights), s, memAt, freeAt, x)
			} else {
				refuses(t, "rights "+strconv.Itoa(rights), s.words(), api.ErrRights, memAt, freeAt, x)
			}
		}
	}
}

// P13.2, R1, R3, P1 of the whole: what isn't there is ErrNone, ahead of all else.
func TestNone(t *testing.T) {
	p := append(begun().words(), begun().words()...)
	for _, no := range far {
		for _, i := range append([]int{0, memAt, freeAt, hungAt, 52, 95}, far...) {
			for _, x := range []thing{{api.Endpoint, 0}, {api.CNode, 6}, {-1, -1}, {api.Untyped, 8}} {
				refuses(t, "no from", p, api.ErrNone, no, i, x)
				refuses(t, "no to", p, api.ErrNone, i, no, x)
			}
		}
	}
}

// P13.2, R3: a from without a capability, with one of each other kind, of a word
// that is none, or of an object that is of another kind, is ErrType.
func TestType(t *testing.T) {
	for _, x := range append(things(), thing{api.Irq, 0}, thing{-1, -1}) {
		for _, to := range []int{freeAt, hungAt, 31} {
			for _, from := range []int{freeAt, hungAt, aboveAt, 0, 95, 52, 53, 54, 55, 56, 57, 58} {
				refuses(t, "from "+strconv.Itoa(from), begun().words(), api.ErrType, from, to, x)
			}
			for kind := api.CNode; kind <= api.Irq; kind++ {
				s := begun()
				s.caps[memAt].Kind = kind
				refuses(t, "an Untyped object's, of kind "+strconv.Itoa(kind), s.words(), api.ErrType, memAt, to, x)
			}
			for _, w := range noCaps {
				p := begun().words()
				p[slotWords*memAt] = w
				refuses(t, "of a word that is none", p, api.ErrType, memAt, to, x)
			}
			for _, kind := range []uint64{0, 2, 3, 4, 5, 6, 7, 8, 9, 1<<8 + 1, 1<<32 + 1, 1<<62 + 1, 1<<63 + 1, math.MaxUint64} {
				s := begun()
				s.objs[mem][0] = kind
				refuses(t, "of an object that isn't Untyped", s.words(), api.ErrType, memAt, to, x)
			}
		}
	}
}

// P13.2, R3: a to that has a capability, of any kind, or a Parent, or is from, is
// ErrTaken; one whose word, or whose Parent, is none, isn't.
func TestTaken(t *testing.T) {
	for _, x := range append(things(), thing{api.Irq, 0}, thing{-1, -1}) {
		s := begun()
		for to, c := range s.caps {
			if c.Kind != api.Null || to == hungAt {
				refuses(t, "to "+strconv.Itoa(to), s.words(), api.ErrTaken, memAt, to, x)
			}
		}
		refuses(t, "to from", s.words(), api.ErrTaken, kidsAt, kidsAt, x)
		for _, w := range []uint64{1, freeAt + 1, memAt + 1, 96} {
			p := s.words()
			p[slotWords*freeAt+1] = w
			refuses(t, "to what has Parent "+strconv.FormatUint(w, 10), p, api.ErrTaken, memAt, freeAt, x)
		}
	}
	for _, x := range things() {
		want := begun().clone()
		obj := want.make(memAt, freeAt, x)
		for _, w := range noCaps {
			p := begun().words()
			p[slotWords*freeAt] = w
			tells(t, "to a word that is none", obj, nil)(Retype(p, memAt, freeAt, x.kind, x.bits))
			stays(t, "to a word that is none", p, want.words())
		}
		for _, w := range []uint64{97, 98, 1 << 8, 1<<32 + 1, 1 << 62, 1<<63 + 1, math.MaxUint64} {
			p := begun().words()
			p[slotWords*freeAt+1] = w
			tells(t, "to what has no such Parent", obj, nil)(Retype(p, memAt, freeAt, x.kind, x.bits))
			stays(t, "to what has no such Parent", p, want.words())
		}
	}
}

// P13.2, R3, P1 of the whole: each kind and bits that there is no cost for is
// ErrArg, also where nothing is left, and nothing unused.
func TestArg(t *testing.T) {
	full := begun()
	full.objs[mem][2], full.slots, full.used = 400, manySlots, manyObjs
	kinds, bits := slices.Clone(far), slices.Clone(far)
	for i := range 14 {
		kinds, bits = append(kinds, i-2), append(bits, i-2)
	}
	for _, kind := range kinds {
		for _, b := range append(bits, 63, 64, 65) {
			x := thing{kind, b}
			if _, ok := costs[x]; !ok {
				refuses(t, x.name(), begun().words(), api.ErrArg, memAt, freeAt, x)
				refuses(t, x.name(), full.words(), api.ErrArg, memAt, freeAt, x)
			}
		}
	}
}

// P13.2, R3: of memory of which just enough is left all is used then; of one less
// it is ErrMemory, also where nothing is unused; of less, too, and where words tell
// that more is used than there is.
func TestMemory(t *testing.T) {
	for _, x := range things() {
		cost := uint64(costs[x])
		for _, used := range []uint64{0, 1, 40, 1<<32 - 2, 1<<62 - 500} {
			s := begun()
			s.objs[mem][1], s.objs[mem][2] = used+cost, used
			makes(t, "just enough", s, memAt, freeAt, x)
			s.objs[mem][1]++
			makes(t, "one more", s, memAt, freeAt, x)
			s.objs[mem][1] -= 2
			refuses(t, "one less, "+x.name(), s.words(), api.ErrMemory, memAt, freeAt, x)
			s.slots, s.used = manySlots, manyObjs
			refuses(t, "one less, and nothing unused, "+x.name(), s.words(), api.ErrMemory, memAt, freeAt, x)
			s.objs[mem][1] = used
			refuses(t, "nothing left, "+x.name(), s.words(), api.ErrMemory, memAt, freeAt, x)
			s.objs[mem][1], s.objs[mem][2] = used, used+cost
			refuses(t, "more used than there is, "+x.name(), s.words(), api.ErrMemory, memAt, freeAt, x)
		}
		s := begun()
		s.objs[mem][1], s.objs[mem][2] = 1<<62, 1<<62-cost
		makes(t, "up to the greatest number", s, memAt, freeAt, x)
		s.objs[mem][2]++
		refuses(t, "up to the greatest number, one less", s.words(), api.ErrMemory, memAt, freeAt, x)
	}
}

// P13.2, P13.3: words above the greatest number of a field: of a size there is
// nothing, of what is used nothing is.
func TestNoNumbers(t *testing.T) {
	for _, w := range []uint64{1<<62 + 1, 1 << 63, 1<<63 + 8, math.MaxUint64} {
		for _, x := range things() {
			s := begun()
			s.objs[mem][1], s.objs[mem][2] = w, 0
			refuses(t, "no size", s.words(), api.ErrMemory, memAt, freeAt, x)

			s.objs[mem][1], s.objs[mem][2] = 300, 0
			want := s.clone()
			obj := want.make(memAt, freeAt, x)
			s.objs[mem][2] = w
			p := s.words()
			tells(t, "no use", obj, nil)(Retype(p, memAt, freeAt, x.kind, x.bits))
			stays(t, "no use", p, want.words())
		}
	}
}

// P13.2, R3: slots and objects of which just enough are unused, and one less; where
// words tell more than there may be, all are used.
func TestFull(t *testing.T) {
	for _, x := range things() {
		s := begun()
		s.slots, s.used = manySlots-x.slots(), manyObjs-1
		makes(t, "just enough", s, memAt, freeAt, x)
		s.used++
		refuses(t, "no object unused", s.words(), api.ErrFull, memAt, freeAt, x)
		if s.used--; x.slots() > 0 {
			for s.slots++; s.slots <= manySlots; s.slots++ {
				refuses(t, "too few slots unused", s.words(), api.ErrFull, memAt, freeAt, x)
			}
		}
		for _, w := range []uint64{32, 33, 1 << 32, 1 << 62, 1 << 63, math.MaxUint64} {
			p := begun().words()
			p[objsUsed] = w
			refuses(t, "objects above all", p, api.ErrFull, memAt, freeAt, x)
		}
		for _, w := range []uint64{97, 1 << 32, 1 << 62, 1 << 63, math.MaxUint64} {
			p := begun().words()
			if p[slotsUsed] = w; x.slots() > 0 {
				refuses(t, "slots above all", p, api.ErrFull, memAt, freeAt, x)
				continue
			}
			want := begun().clone()
			obj := want.make(memAt, freeAt, x)
			tells(t, "without slots", obj, nil)(Retype(p, memAt, freeAt, x.kind, x.bits))
			p[slotsUsed] = uint64(want.slots)
			stays(t, "without slots", p, want.words())
		}
	}
}
