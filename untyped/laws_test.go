package untyped

import (
	"math"
	"slices"
	"testing"

	"padstone/api"
	"padstone/cdt"
	"padstone/cspace"
	"padstone/lay"
	"padstone/stm"
	"padstone/tx"
	"padstone/view"
	"padstone/word"
)

// dice are numbers from a short rule: the same ones in each run.
type dice uint64

func (d *dice) roll(n int) int {
	*d = *d*6364136223846793005 + 1442695040888963407
	return int(uint64(*d) >> 33 % uint64(n))
}

// of is one of a list.
func (d *dice) of(l ...int) int { return l[d.roll(len(l))] }

// thing is one that there is a cost for, or, now and then, any.
func (d *dice) thing() thing {
	if d.roll(12) == 0 {
		return thing{d.of(-1, 0, 1, 2, 3, 5, 7, 8, 9, math.MaxInt), d.of(-1, 0, 1, 6, 9, 64, math.MinInt)}
	}
	l := things()
	return l[d.roll(len(l))]
}

// slot is a slot among the first n, or, now and then, what may be none.
func (d *dice) slot(n int) int {
	if d.roll(40) == 0 {
		return d.of(-1, 0, 95, 96, 97, 1<<62, math.MaxInt, math.MinInt)
	}
	return d.roll(n)
}

// asked is a state, and what a Retype is asked for.
type asked struct {
	s        *state
	from, to int
	x        thing
}

// fault is what makes a Retype tell an error.
type fault func(a *asked)

// faults are those of each error, in the promise's order; the first of each is none.
func faults() ([]api.Code, [][]fault) {
	none := func(*asked) {}
	kind := func(n uint64) fault { return func(a *asked) { a.s.objs[mem][0] = n } }
	capKind := func(n int) fault {
		return func(a *asked) { a.s.caps[memAt] = api.Cap{Kind: n, Rights: n & 5, Obj: mem} }
	}
	rights := func(n int) fault { return func(a *asked) { a.s.caps[memAt].Rights &= n } }
	x := func(kind, bits int) fault { return func(a *asked) { a.x = thing{kind, bits} } }
	size := func(n uint64) fault { return func(a *asked) { a.s.objs[mem][1] = n } }
	return []api.Code{api.ErrNone, api.ErrType, api.ErrRights, api.ErrTaken, api.ErrArg, api.ErrMemory, api.ErrFull},
		[][]fault{
			{none, func(a *asked) { a.from = -1 }, func(a *asked) { a.to = 96 }, func(a *asked) { a.from, a.to = 96, -1 }},
			{none, kind(0), kind(2), kind(1<<32 + 1), capKind(3), capKind(2), func(a *asked) { a.s.caps[memAt] = api.Cap{} }},
			{none, rights(0), rights(5)},
			{none, func(a *asked) { a.s.caps[freeAt] = api.Cap{Kind: 6} }, func(a *asked) { a.s.kids[52] = []int{freeAt} }},
			{none, x(api.Irq, 0), x(api.CNode, 6), x(api.Untyped, -1), x(api.Frame, 1)},
			{none, size(40), size(30), size(0)},
			{none, func(a *asked) { a.s.used = 32 }, func(a *asked) { a.s.slots = 93 }},
		}
}

// R1: whatever faults there are, the one is told that the promise names first; if
// there is none, the object is made.
func TestOrder(t *testing.T) {
	codes, l := faults()
	seen := map[api.Code]int{}
	all := 1
	for _, f := range l {
		all *= len(f)
	}
	for n := range all {
		a := asked{begun(), memAt, freeAt, thing{api.CNode, 2}}
		want := api.Code(0)
		for i, f := range l {
			k := n % len(f)
			n /= len(f)
			if f[k](&a); k > 0 && want == 0 {
				want = codes[i]
			}
		}
		seen[want]++
		if want == 0 {
			makes(t, "no fault", a.s, a.from, a.to, a.x)
			continue
		}
		refuses(t, "faults", a.s.words(), want, a.from, a.to, a.x)
	}
	if len(seen) != len(codes)+1 || seen[0] != 1 || seen[api.ErrFull] != 2 {
		t.Error("errors were told so often:", seen)
	}
}

// P13.2, R1: a CNode that there are too few slots for isn't one that there is too
// little memory for; of a to that is from there is a capability.
func TestOrderOfFew(t *testing.T) {
	s := begun()
	s.slots, s.objs[mem][2] = 65, 368
	refuses(t, "too few slots", s.words(), api.ErrFull, memAt, freeAt, thing{api.CNode, 5})
	s.objs[mem][2]++
	refuses(t, "too little memory, too", s.words(), api.ErrMemory, memAt, freeAt, thing{api.CNode, 5})
	s.caps[memAt].Rights = 5
	refuses(t, "no right, to from", s.words(), api.ErrRights, memAt, memAt, thing{api.CNode, 5})
	s.caps[memAt].Kind = api.Frame
	refuses(t, "another kind, to from", s.words(), api.ErrType, memAt, memAt, thing{api.CNode, 6})
}

// P13.2, P13.3: one behind the other, until nothing is left: numbered on, each the
// first below from, and all together cost what there was.
func TestUntilNothingIsLeft(t *testing.T) {
	s := &state{slots: 3, used: 2}
	s.caps[0] = api.Cap{Kind: api.Untyped, Rights: 2, Obj: 1}
	s.objs[1] = [objWords]uint64{api.Untyped, 100}
	p, rest, to := s.words(), 100, 10
	for _, x := range []thing{{api.CNode, 5}, {api.Untyped, 3}, {api.Thread, 0}, {api.CNode, 0}, {api.Untyped, 0},
		{api.Endpoint, 0}, {api.CNode, 4}, {api.Ntfn, 0}, {api.Frame, 0}, {api.Space, 0}, {api.CNode, 3}, {api.Untyped, 2},
		{api.Untyped, 1}, {api.CNode, 1}, {api.CNode, 0}, {api.CNode, 0}} {
		obj := s.make(0, to, x)
		tells(t, x.name(), obj, nil)(Retype(p, 0, to, x.kind, x.bits))
		stays(t, x.name(), p, s.words())
		rest -= costs[x]
		left(t, x.name(), p, 1, rest)
		to++
	}
	if rest != 0 || s.used != 18 || s.slots != 3+32+1+16+8+2+1+1 {
		t.Error("left, and used:", rest, s.used, s.slots)
	}
	for _, x := range things() {
		refuses(t, "nothing is left", p, api.ErrMemory, 0, to, x)
	}
	for n, k := range cdt.Kids(p, 0) {
		if k != to-1-n || cspace.Cap(p, k).Obj != k-8 {
			t.Errorf("kid %d is %d, of object %d", n, k, cspace.Cap(p, k).Obj)
		}
	}
}

// P13.2, P13.3: memory of memory of memory: each has its own size, one less than it
// cost, and what is made of it costs nothing above.
func TestMemoryOfMemory(t *testing.T) {
	s := &state{used: 1}
	s.caps[95] = api.Cap{Kind: api.Untyped, Rights: 7}
	s.objs[0] = [objWords]uint64{api.Untyped, 257}
	p := s.words()
	from := 95
	for to, rest := range []int{0, 127, 63, 31, 15, 7, 3, 1, 0} {
		bits := 8 - to
		tells(t, "memory of memory", to+1, nil)(Retype(p, from, to, api.Untyped, bits))
		left(t, "above", p, to, rest)
		left(t, "made", p, to+1, 1<<bits)
		from = to
	}
	for obj, rest := range []int{0, 127, 63, 31, 15, 7, 3, 1, 0, 1} {
		left(t, "at last", p, obj, rest)
	}
	refuses(t, "1 is left", p, api.ErrMemory, 8, 20, thing{api.Untyped, 0})
	tells(t, "1 is left", 10, nil)(Retype(p, 8, 20, api.CNode, 0))
	left(t, "none is left", p, 9, 0)
}

// ask is what a Retype is to tell, by the chapter's words once more.
func (s *state) ask(from, to int, x thing) error {
	there := func(i int) bool { return i >= 0 && i <= 95 }
	if !there(from) || !there(to) {
		return api.ErrNone
	}
	c := s.caps[from]
	hung := slices.ContainsFunc(s.kids[:], func(l []int) bool { return slices.Contains(l, to) })
	cost, is := costs[x]
	o := s.objs[c.Obj]
	switch {
	case c.Kind != 1 || o[0] != 1:
		return api.ErrType
	case c.Rights/2%2 == 0:
		return api.ErrRights
	case s.caps[to].Kind != 0 || hung:
		return api.ErrTaken
	case !is:
		return api.ErrArg
	case o[2]+uint64(cost) > o[1]:
		return api.ErrMemory
	case s.used+1 > 32 || s.slots+x.slots() > 96:
		return api.ErrFull
	}
	return nil
}

// started are slots of a few capabilities of a few objects of memory, and others.
func (d *dice) started(n int) *state {
	s := &state{slots: d.of(0, 20, 60, 90), used: 3 + d.roll(6)}
	for i := range s.objs {
		for field := range objWords {
			s.objs[i][field] = uint64(d.roll(3000))
		}
	}
	for i := range s.used {
		s.objs[i] = [objWords]uint64{uint64(d.of(1, 1, 1, 2, 3, 5)), uint64(d.of(9, 40, 300, 600)), uint64(d.roll(20))}
	}
	for range 1 + n/3 {
		s.caps[d.roll(n)] = api.Cap{Kind: d.of(1, 1, 1, 2, 3, 6), Rights: d.of(7, 7, 2, 5), Obj: d.roll(s.used)}
	}
	if kid, parent := d.roll(n), d.roll(n); kid != parent && d.roll(2) == 0 {
		s.kids[parent] = []int{kid}
	}
	return s
}

// never holds P13.3 of a call: what is used doesn't shrink, no more of memory than
// there is, and what is made is behind all that was used, and costs just that.
func never(t *testing.T, before, after view.Plain, obj int, x thing) {
	t.Helper()
	slots, used := lay.Used(before)
	slotsThen, usedThen := lay.Used(after)
	if obj != used || usedThen != used+1 || slotsThen != slots+x.slots() {
		t.Fatalf("object %d of %d is made, then %d; slots %d, then %d", obj, used, usedThen, slots, slotsThen)
	}
	if x.kind == api.CNode && (lay.Field(after, obj, lay.F1) < slots || !cspace.Fine(after, api.Cap{Kind: api.CNode, Obj: obj})) {
		t.Fatalf("a CNode from slot %d on, of which %d were used", lay.Field(after, obj, lay.F1), slots)
	}
	cost := 0
	for i := range used {
		n := lay.Field(after, i, lay.F2) - lay.Field(before, i, lay.F2)
		if n < 0 || n != Left(before, i)-Left(after, i) {
			t.Fatalf("of object %d %d was left, then %d", i, Left(before, i), Left(after, i))
		}
		cost += n
	}
	if cost != costs[x] {
		t.Fatalf("%s cost %d", x.name(), cost)
	}
}

// P13.1 to P13.3, R3: many calls one behind the other, of few slots and of all.
func TestLaws(t *testing.T) {
	var d dice
	seen := map[error]int{}
	for round := range 1500 {
		n := []int{4, 12, 40, 96}[round%4]
		s := d.started(n)
		p := s.words()
		for range 100 {
			from, to, x := d.slot(n), d.slot(n), d.thing()
			before, want := slices.Clone(p), s.ask(from, to, x)
			seen[want]++
			if want != nil {
				refuses(t, "laws", p, want, from, to, x)
				continue
			}
			obj := s.make(from, to, x)
			tells(t, "laws", obj, nil)(Retype(p, from, to, x.kind, x.bits))
			if !slices.Equal(p, s.words()) {
				t.Fatalf("round %d, %s: %v", round, x.name(), view.Changed(s.words(), p))
			}
			never(t, before, p, obj, x)
		}
	}
	for _, err := range []error{nil, api.ErrNone, api.ErrType, api.ErrRights, api.ErrTaken, api.ErrArg, api.ErrMemory, api.ErrFull} {
		if seen[err] < 100 {
			t.Errorf("%v was told %d times", err, seen[err])
		}
	}
}

// Words that no call left.

// littered are words of any capabilities, links, objects, and numbers of used ones.
func (d *dice) littered(n int) view.Plain {
	p := make(view.Plain, allWords)
	odd := []uint64{0, 1, 97, 1 << 8, 1<<32 + 1, 1<<62 - 1, 1 << 62, 1<<62 + 1, 1 << 63, 1<<63 + 1, math.MaxUint64}
	for i := range slotWords * n {
		switch {
		case i%slotWords > 0:
			p[i] = uint64(d.roll(n + 2))
		case d.roll(5) > 0:
			p[i] = wordOf(api.Cap{Kind: d.of(1, 1, 1, 1, 0, 3), Rights: d.of(7, 3, 2, 2, 5), Obj: d.roll(32)})
		default:
			p[i] = append(noCaps, 0)[d.roll(len(noCaps)+1)]
		}
	}
	for i := objsAt; i < slotsUsed; i++ {
		switch field := i % objWords; {
		case d.roll(8) == 0:
			p[i] = odd[d.roll(len(odd))]
		case field == 0:
			p[i] = uint64(d.of(1, 1, 1, 1, 0, 2, 3, 9))
		default:
			p[i] = uint64(d.of(0, 1, 8, 40, 300, 600, 1<<40) + d.roll(5))
		}
	}
	p[slotsUsed], p[objsUsed] = uint64(d.roll(100)), uint64(d.roll(36))
	if d.roll(10) == 0 {
		p[slotsUsed] = odd[d.roll(len(odd))]
	}
	if d.roll(10) == 0 {
		p[objsUsed] = odd[d.roll(len(odd))]
	}
	return p
}

// cleared takes a slot's capability, and now and then its Parent.
func (d *dice) cleared(p view.Plain, slot int) {
	p[slotWords*slot] = append(noCaps, 0)[d.roll(len(noCaps)+1)]
	if d.roll(4) > 0 {
		p[slotWords*slot+1] = 97 * uint64(d.roll(2))
	}
}

// follows is what a Retype is to make of any words, by the calls of layers 9 to 11.
func follows(v view.View, from, to int, x thing) (int, error) {
	c := cspace.Cap(v, from)
	cost, is := costs[x]
	size, used := lay.Field(v, c.Obj, lay.F1), lay.Field(v, c.Obj, lay.F2)
	switch {
	case c.Kind != api.Untyped || !lay.Is(v, c.Obj, api.Untyped):
		return 0, api.ErrType
	case c.Rights/2%2 == 0:
		return 0, api.ErrRights
	case cspace.Cap(v, to).Kind != api.Null || cdt.Parent(v, to) != -1:
		return 0, api.ErrTaken
	case !is:
		return 0, api.ErrArg
	case size-used < cost:
		return 0, api.ErrMemory
	}
	slot, obj, err := lay.Take(v, x.slots(), 1)
	if err != nil {
		return 0, err
	}
	fields := [objWords]int{x.kind}
	switch x.kind {
	case api.Untyped:
		fields[1] = cost - 1
	case api.CNode:
		fields[1], fields[2] = slot, x.bits
	}
	for field, n := range fields {
		lay.Put(v, obj, field, n)
	}
	lay.Put(v, c.Obj, lay.F2, used+cost)
	if err := cdt.Link(v, to, from); err != nil {
		return 0, err
	}
	return obj, cspace.Set(v, to, api.Cap{Kind: x.kind, Rights: 7, Obj: obj})
}

// P13.1 to P13.3, R3, P1 of the whole: whatever the words.
func TestLittered(t *testing.T) {
	var d dice
	seen := map[error]int{}
	self := 0
	for round := range 60000 {
		n := []int{2, 3, 6, 20, 96}[round%5]
		p, from, to, x := d.littered(n), d.roll(n), d.roll(n), d.thing()
		if from != to {
			d.cleared(p, to)
		}
		c := cspace.Cap(p, from)
		before, want := slices.Clone(p), slices.Clone(p)
		obj, err := follows(want, from, to, x)
		seen[err]++
		tells(t, "littered", obj, err)(Retype(p, from, to, x.kind, x.bits))
		if !slices.Equal(p, want) {
			t.Fatalf("round %d, %s, from %d to %d: %v", round, x.name(), from, to, view.Changed(want, p))
		}
		if err != nil {
			stays(t, "littered", p, before)
			continue
		}
		if obj == c.Obj {
			self++
		}
		if lay.Field(p, c.Obj, lay.F2) < lay.Field(before, c.Obj, lay.F2) {
			t.Fatalf("round %d: what is used shrinks", round)
		}
	}
	for _, err := range []error{nil, api.ErrType, api.ErrRights, api.ErrTaken, api.ErrArg, api.ErrMemory, api.ErrFull} {
		if seen[err] < 300 {
			t.Errorf("%v was told %d times", err, seen[err])
		}
	}
	if self < 30 {
		t.Error("memory was itself unused", self, "times")
	}
}

// P13.2, P1 of the whole: a slot that is linked in a circle, or that has itself
// below it, is given a capability all the same, as it has no Parent.
func TestCircles(t *testing.T) {
	for _, links := range [][4]uint64{{0, freeAt + 1, freeAt + 1, freeAt + 1}, {0, memAt + 1, 0, 0}, {0, 97, 98, 99}} {
		p := begun().words()
		copy(p[slotWords*freeAt+1:], links[:])
		q := slices.Clone(p)
		obj, err := follows(q, memAt, freeAt, thing{api.Space, 0})
		tells(t, "a circle", obj, err)(Retype(p, memAt, freeAt, api.Space, 0))
		stays(t, "a circle", p, q)
		if err != nil {
			t.Error(err)
		}
	}
}

// P13.1, P13.2, P1 of the whole: views that have fewer words than there are read 0
// there, and nothing is written; of one that has more, those behind all stay.
func TestOtherViews(t *testing.T) {
	var d dice
	made, fewer := 0, 0
	for _, words := range []int{0, 1, 4, 5, 9, 50, 474, 475, 479, 480, 481, 482, 483, 488, 600, 735, 736, 737, 738, 739, 900} {
		for range 400 {
			all := append(d.littered(96), slices.Repeat([]uint64{1, 40, 3}, 60)...)
			from, to, x := d.roll(10), d.roll(96), d.thing()
			d.cleared(all, to)
			all[slotWords*from] = wordOf(api.Cap{Kind: 1, Rights: 7, Obj: d.of(0, 0, 1, 20)})
			p := all[:words:words]
			q, behind := slices.Clone(p), slices.Clone(all[words:])
			obj, err := follows(q, from, to, x)
			tells(t, "another view", obj, err)(Retype(p, from, to, x.kind, x.bits))
			stays(t, "another view", p, q)
			stays(t, "behind another view", all[words:], behind)
			if err != nil {
				continue
			}
			if made++; words < allWords {
				fewer++
			}
		}
	}
	if made < 300 || fewer < 200 {
		t.Errorf("made %d, of short views %d", made, fewer)
	}
	var p view.Plain
	tells(t, "of no words", 0, api.ErrType)(Retype(p, 0, 1, api.Endpoint, 0))
	tells(t, "of no words", 0, api.ErrNone)(Retype(p, 0, 96, api.Endpoint, 0))
	left(t, "of no words", p, 0, 0)
}

// P13.1, P1 of the whole: an object that lies partly behind a view's end has what
// its words that are there tell.
func TestLeftOfShortViews(t *testing.T) {
	p := begun().words()
	at := objsAt + objWords*mem
	for words, want := range map[int]int{0: 0, at: 0, at + 1: 0, at + 2: 400, at + 3: 360, at + 8: 360, allWords: 360} {
		left(t, "a short view", p[:words:words], mem, want)
	}
}

// storeOf is a store of words.
func storeOf(t *testing.T, words view.Plain) *word.Store {
	t.Helper()
	s, err := word.New(len(words), api.MaxVersion)
	if err != nil {
		t.Fatal(err)
	}
	for i, w := range words {
		s.Set(i, w)
	}
	return s
}

// P13.1, P13.2: of a view that isn't a plain one, a record (layer 6), all comes to
// what a plain view does, and no call reads many cells.
func TestOfRecords(t *testing.T) {
	var d dice
	for range 200 {
		p := begun().words()
		from, to, x := d.of(memAt, kidsAt, belowAt, 52), d.of(freeAt, aboveAt, 95, 53), d.thing()
		st, r := storeOf(t, p), tx.New(allWords)
		var obj, rest int
		var err error
		f := func(v view.View) {
			obj, err = Retype(v, from, to, x.kind, x.bits)
			rest = Left(v, mem)
		}
		for i, ok := r.Run(f); !ok; i, ok = r.Run(f) {
			c, _ := st.Read(i)
			r.Learn(i, c)
		}
		got := slices.Clone(p)
		for _, e := range r.Entries() {
			got[e.Cell] = e.New
		}
		want, wantErr := Retype(p, from, to, x.kind, x.bits)
		tells(t, "of a record", want, wantErr)(obj, err)
		stays(t, "of a record", got, p)
		left(t, "of a record", p, mem, rest)
		if r.Reads() > 30 {
			t.Errorf("%d cells are read", r.Reads())
		}
	}
}

// P13.2, P13.3: by many at once (layer 8), in any order of steps, all comes to what
// is done one behind the other, in the log's order: nothing is made twice.
func TestAtOnce(t *testing.T) {
	var d dice
	for range 60 {
		p := begun().words()
		var jobs [4][]stm.Job
		var feeds []stm.Feed
		for worker := range jobs {
			for range 6 {
				from, to, x := d.of(memAt, kidsAt, belowAt), 70+d.roll(20), d.thing()
				jobs[worker] = append(jobs[worker], func(v view.View) int {
					n, err := Retype(v, from, to, x.kind, x.bits)
					if c, is := err.(api.Code); is {
						return 100 + int(c)
					}
					return n
				})
			}
			feeds = append(feeds, stm.List(jobs[worker]))
		}
		s := storeOf(t, p)
		m, err := stm.New(s, feeds)
		if err != nil {
			t.Fatal(err)
		}
		for !m.Idle() {
			m.Step(d.roll(4))
		}
		next := 11
		for _, e := range m.Log() {
			if n := jobs[e.Worker][e.Job](p); n != e.Told {
				t.Fatalf("job %d of worker %d told %d, in the log's order %d", e.Job, e.Worker, e.Told, n)
			}
			if e.Told < 100 {
				if e.Told != next {
					t.Errorf("object %d, where %d is next", e.Told, next)
				}
				next++
			}
		}
		stays(t, "at once", s.Values(), p)
		if next < 14 {
			t.Error("hardly anything was made:", next-11)
		}
	}
}
