package cspace

import (
	"errors"
	"math"
	"math/bits"
	"slices"
	"strings"
	"testing"

	"padstone/api"
	"padstone/guard"
	"padstone/stm"
	"padstone/tx"
	"padstone/view"
	"padstone/word"
)

// dice are numbers from a short rule: the same ones in each run.
type dice uint64

func (d *dice) roll(n int) int {
	*d = *d*6364136223846793005 + 1442695040888963407
	return int(uint64(*d) >> 33 % uint64(n))
}

// of is one of a list.
func (d *dice) of(l []int) int { return l[d.roll(len(l))] }

// The chapter's words once more, with addresses as texts of bits, and each CNode
// as a list of its slots.

// model is what words are to tell.
type model struct {
	caps  [96]api.Cap
	nodes [32][]int // none, if that object is no CNode that is fine
}

// partsOf are a word's parts, from the lowest bit on.
func partsOf(w uint64) api.Cap {
	var l []int
	for _, bits := range []int{4, 3, 5, 16, 4, 32} {
		l = append(l, int(w%(1<<bits)))
		w >>= bits
	}
	return api.Cap{Kind: l[0], Rights: l[1], Obj: l[2], Badge: l[3], Bits: l[4], Guard: l[5]}
}

// capOf is a word's capability, or a Null one.
func capOf(w uint64) api.Cap {
	c := partsOf(w)
	bare := c
	bare.Kind, bare.Rights, bare.Obj = 0, 0, 0
	switch {
	case c.Kind == api.CNode && c.Badge == 0 && c.Bits <= 8 && c.Guard < 1<<c.Bits:
	case (c.Kind == api.Endpoint || c.Kind == api.Ntfn) && c.Bits == 0 && c.Guard == 0:
	case c.Kind > 0 && c.Kind <= 8 && c.Kind != api.CNode && bare == api.Cap{}:
	default:
		return api.Cap{}
	}
	return c
}

// numberOf is a word as a field's number.
func numberOf(w uint64) uint64 {
	if w > 4611686018427387904 {
		return 0
	}
	return w
}

// modelOf is that of words.
func modelOf(p view.Plain) *model {
	var m model
	for i := range m.caps {
		m.caps[i] = capOf(p.Read(5 * i))
	}
	for i := range m.nodes {
		first, radix := numberOf(p.Read(481+8*i)), numberOf(p.Read(482+8*i))
		if p.Read(480+8*i) != 2 || radix > 5 || first > 95 || first+1<<radix > 96 {
			continue
		}
		for k := range 1 << radix {
			m.nodes[i] = append(m.nodes[i], int(first)+k)
		}
	}
	return &m
}

// slots are those of a capability, if it is a fine CNode's.
func (m *model) slots(c api.Cap) []int {
	if c.Kind != api.CNode || c.Obj < 0 || c.Obj > 31 {
		return nil
	}
	return m.nodes[c.Obj]
}

// bitsOf is a number, of so many bits, as a text.
func bitsOf(n, bits int) string {
	var b strings.Builder
	for k := bits - 1; k >= 0; k-- {
		b.WriteByte("01"[n>>k&1])
	}
	return b.String()
}

// find is what is to be found by what is left of an address, in so many times,
// and in how many it is.
func (m *model) find(c api.Cap, left string, times int) (int, int, error) {
	l := m.slots(c)
	if times == 0 || l == nil {
		return 0, 0, api.ErrDepth
	}
	ahead := bitsOf(c.Guard, c.Bits)
	for k, slot := range l {
		index := bitsOf(k, bits.Len(uint(len(l)-1)))
		if len(ahead)+len(index) > len(left) {
			return 0, 0, api.ErrDepth
		}
		if rest, ok := strings.CutPrefix(left, ahead+index); ok && rest == "" {
			return slot, 1, nil
		} else if ok {
			slot, n, err := m.find(m.caps[slot], rest, times-1)
			return slot, n + 1, err
		}
	}
	return 0, 0, api.ErrGuard
}

// lookup is what Lookup is to answer, and in how many times it is found.
func (m *model) lookup(root api.Cap, addr int) (int, int, error) {
	switch {
	case addr < 0 || addr > 65535:
		return 0, 0, api.ErrArg
	case m.slots(root) == nil:
		return 0, 0, api.ErrType
	case root.Bits < 0 || root.Bits > 8 || root.Guard < 0 || root.Guard > 1<<root.Bits-1:
		return 0, 0, api.ErrArg
	}
	slot, n, err := m.find(root, bitsOf(addr, 16), 16)
	if err != nil {
		return 0, 0, err
	}
	return slot, n, nil
}

// word is a slot's word: mostly a CNode's of few objects, behind few bits.
func (d *dice) word(objs int) uint64 {
	c := api.Cap{Kind: api.CNode, Rights: d.roll(8), Obj: d.roll(objs)}
	switch d.roll(12) {
	case 0:
		return []uint64{0, 9, 2 | 1<<12, 2 | 1<<33, 2 | 9<<28, 1 << 62, 1 << 63, math.MaxUint64}[d.roll(8)]
	case 1:
		return wordOf(api.Cap{Kind: 1 + d.roll(8), Obj: d.roll(32)})
	case 2, 3:
		c.Bits = d.roll(9)
	case 4, 5, 6:
		c.Bits = d.roll(3)
	}
	if d.roll(2) == 0 {
		c.Guard = d.roll(1 << c.Bits)
	}
	return wordOf(c)
}

// littered are words of any kind, of which few objects are mostly CNodes.
func (d *dice) littered() view.Plain {
	p := make(view.Plain, allWords)
	objs := 1 + d.roll(8)
	for i := range p {
		switch {
		case i < objsAt && i%slotWords == 0:
			p[i] = d.word(objs)
		case i < objsAt || i >= 736 || d.roll(60) == 0:
			p[i] = []uint64{0, 1, 2, 96, 1 << 62, 1<<62 + 1, math.MaxUint64}[d.roll(7)]
		case i%objWords == 0:
			p[i] = api.CNode
		case i%objWords == 1:
			p[i] = uint64(d.roll(98))
		case i%objWords == 2:
			p[i] = uint64(d.of([]int{0, 0, 1, 1, 1, 2, 3, 4, 5, 6}))
		}
	}
	return p
}

// anyCap is a capability that is handed in: mostly one that may be.
func (d *dice) anyCap(objs int) api.Cap {
	edges := []int{-1, 0, 1, 2, 7, 8, 9, 31, 32, 255, 256, 65535, 65536, 1 << 32, math.MaxInt, math.MinInt}
	c := capOf(d.word(objs))
	if d.roll(6) == 0 {
		parts := []*int{&c.Kind, &c.Rights, &c.Obj, &c.Badge, &c.Guard, &c.Bits}
		*parts[d.roll(6)] = d.of(edges)
	}
	return c
}

// address is one, or, now and then, none.
func (d *dice) address() int {
	if d.roll(40) == 0 {
		return d.of([]int{-1, 65536, 1 << 32, math.MaxInt, math.MinInt})
	}
	if d.roll(3) == 0 {
		return d.roll(16) << d.roll(13)
	}
	return d.roll(65536)
}

// agree holds what is told of words, of one root and one address, against the
// model, and tells what it came to: how many times, or an error's number below 0.
func agree(t *testing.T, v view.View, m *model, root api.Cap, addr int) int {
	t.Helper()
	if Fine(v, root) != (m.slots(root) != nil) {
		t.Fatalf("%v is fine: %v, of slots %v", root, Fine(v, root), m.slots(root))
	}
	slot, err := Lookup(v, root, addr)
	want, times, wantErr := m.lookup(root, addr)
	if slot != want || (err == nil) != (wantErr == nil) || err != nil && !errors.Is(err, wantErr) {
		t.Fatalf("address %s of %v: %d, %v, want %d, %v", bitsOf(addr, 16), root, slot, err, want, wantErr)
	}
	var c api.Code
	if errors.As(err, &c) {
		return -int(c)
	}
	return times
}

// P11.1 to P11.3, P1 of the whole: of any words, any capabilities, any addresses.
func TestLaws(t *testing.T) {
	var d dice
	came := map[int]int{}
	for range 3000 {
		p := d.littered()
		before, m := slices.Clone(p), modelOf(p)
		for i := -1; i <= 96; i++ {
			want := api.Cap{}
			if i >= 0 && i < 96 {
				want = m.caps[i]
			}
			if c := Cap(p, i); c != want {
				t.Fatalf("slot %d has %v, want %v", i, c, want)
			}
		}
		for range 60 {
			came[agree(t, p, m, d.anyCap(9), d.address())]++
		}
		if !slices.Equal(p, before) {
			t.Fatal("words are changed")
		}
	}
	for _, n := range []int{-int(api.ErrArg), -int(api.ErrType), -int(api.ErrGuard), -int(api.ErrDepth), 2, 3, 4, 5, 8, 12, 16} {
		if came[n] < 5 {
			t.Errorf("what comes to %d is tried %d times: %v", n, came[n], came)
		}
	}
}

// P11.1, P11.2: slots are set meanwhile, one behind the other.
func TestLawsOfSet(t *testing.T) {
	var d dice
	for range 300 {
		p := d.littered()
		for range 60 {
			slot, c := d.roll(98)-1, d.anyCap(9)
			want := slices.Clone(p)
			_, may := wordIf(c)
			wantErr := error(nil)
			switch {
			case slot < 0 || slot > 95:
				wantErr = api.ErrNone
			case !may:
				wantErr = api.ErrArg
			default:
				holds(want, slot, c)
			}
			tells(t, "Set", Set(p, slot, c), wantErr)
			if !slices.Equal(p, want) {
				t.Fatalf("%v set in %d: %v", c, slot, view.Changed(want, p))
			}
			agree(t, p, modelOf(p), d.anyCap(9), d.address())
		}
	}
}

// wordIf is a capability's word, if it may be: its parts are got of it again.
func wordIf(c api.Cap) (uint64, bool) {
	for _, n := range []int{c.Kind, c.Rights, c.Obj, c.Badge, c.Guard, c.Bits} {
		if n < 0 || n > 65535 {
			return 0, false
		}
	}
	w := wordOf(c)
	return w, capOf(w) == c
}

// path is a way through CNodes, each an object of its own: what its address is
// joined of, and the slot at its end.
type path struct {
	parts, bits []int
	root        api.Cap
	slot        int
}

// path lays a way into words, of 16 bits, in at most so many times.
func (d *dice) path(p view.Plain, times int) (path, bool) {
	var w path
	left, free, at := 16, 0, -1
	most := d.of([]int{3, 4, 5, 7}) // the fewer bits a step takes, the more steps there are
	for n := 0; n < times && left > 0; n++ {
		bits := min(left, d.of([]int{0, 0, 1, 1, 2, 3, 8}[:most]))
		radix := min(left-bits, d.of([]int{0, 0, 1, 1, 2, 3, 5}[:most]))
		if free+1<<radix > 96 {
			return w, false
		}
		c, index := cnode(n, d.roll(1<<bits), bits), d.roll(1<<radix)
		isCNode(p, n, uint64(free), uint64(radix))
		if n == 0 {
			w.root = c
		} else {
			holds(p, at, c)
		}
		w.parts, w.bits = append(w.parts, c.Guard, index), append(w.bits, bits, radix)
		at, free, left = free+index, free+1<<radix, left-bits-radix
	}
	w.slot = at
	return w, left == 0
}

// P11.3: an address is found, if it is joined of guards and indexes; one that is
// unlike it in a single bit leads to another slot, or to none.
func TestJoined(t *testing.T) {
	var d dice
	steps := map[int]int{}
	for range 20000 {
		p := filled()
		w, ok := d.path(p, 16)
		if !ok {
			continue
		}
		steps[len(w.parts)/2]++
		addr, err := guard.Join(w.parts, w.bits)
		if err != nil {
			t.Fatal(err)
		}
		if n, err := Lookup(p, w.root, addr); n != w.slot || err != nil {
			t.Fatalf("%v, of %v bits: %d, %v, want %d", w.parts, w.bits, n, err, w.slot)
		}
		other := addr ^ 1<<d.roll(16)
		if n, err := Lookup(p, w.root, other); err == nil && n == w.slot {
			t.Fatalf("%v, of %v bits: %d leads to slot %d, too", w.parts, w.bits, other, n)
		}
	}
	for n := 2; n <= 16; n++ {
		if steps[n] < 5 {
			t.Errorf("ways of %d steps: %d", n, steps[n])
		}
	}
}

// P11.3: what is found is a slot of a fine CNode, and there is one whose slots
// have its capability, or it is the root.
func TestFound(t *testing.T) {
	var d dice
	found := 0
	for range 2000 {
		p := d.littered()
		for range 60 {
			root := d.anyCap(9)
			n, err := Lookup(p, root, d.address())
			if err != nil {
				continue
			}
			found++
			if !slices.ContainsFunc(append([]api.Cap{root}, modelOf(p).caps[:]...), func(c api.Cap) bool {
				return Fine(p, c) && slices.Contains(modelOf(p).slots(c), n)
			}) {
				t.Fatalf("slot %d is of no fine CNode", n)
			}
		}
	}
	if found < 500 {
		t.Errorf("only %d are found", found)
	}
}

// P11.1, P11.2, P1 of the whole: views that have fewer words than there are read
// 0 there, and nothing is written.
func TestShortViews(t *testing.T) {
	var d dice
	for _, words := range []int{0, 1, 2, 5, 6, 7, 100, 475, 476, 480, 481, 482, 483, 488, 489, 491, 500, 735, 736, 737} {
		for range 100 {
			all := d.littered()
			clear(all[words:])
			p := slices.Clone(all[:words])
			for range 20 {
				agree(t, p, modelOf(all), d.anyCap(9), d.address())
				slot, c := d.roll(98)-1, d.anyCap(9)
				before := slices.Clone(p)
				err := Set(p, slot, c)
				if Set(all, slot, c) != nil || 5*slot >= words {
					stays(t, "nothing is set", p, before)
				}
				clear(all[words:])
				if (err == nil) != (slot >= 0 && slot < 96 && !errors.Is(err, api.ErrArg)) {
					t.Fatalf("of %d words, slot %d: %v", words, slot, err)
				}
				stays(t, "a short view", p, all[:words])
			}
		}
	}
	var p view.Plain
	fine(t, "of no words", p, cnode(0, 0, 0), false)
	leads(t, "of no words", p, cnode(0, 0, 0), 0, 0, api.ErrType)
	tells(t, "of no words", Set(p, 95, cnode(0, 0, 0)), nil)
	tells(t, "of no words", Set(p, 96, cnode(0, 0, 0)), api.ErrNone)
	tells(t, "of no words", Set(p, 0, cnode(0, 1, 0)), api.ErrArg)
	if c := Cap(p, 0); c != (api.Cap{}) {
		t.Errorf("of no words: %v", c)
	}
}

// P11.1, P11.2: a CNode object whose words are cut off: its radix is 0, and its
// first slot, too; a slot cut off has nothing.
func TestOfHalf(t *testing.T) {
	p := filled()
	isCNode(p, 0, 9, 3)
	holds(p, 0, cnode(0, 0, 8))
	holds(p, 9, cnode(0, 0, 8))
	leads(t, "its kind alone", p[:481], cnode(0, 0, 8), 0, 0, nil)
	leads(t, "its first slot, too", p[:482], cnode(0, 0, 8), 0, 9, nil)
	leads(t, "its radix, too", p[:483], cnode(0, 0, 8), 0, 0, api.ErrDepth)
	leads(t, "not its kind", p[:480], cnode(0, 0, 8), 0, 0, api.ErrType)
}

// done is what a function does to words, as a record (layer 6) has it that learns
// a store's cells, and of how many cells.
func done(t *testing.T, words view.Plain, f func(v view.View)) (view.Plain, int) {
	t.Helper()
	s, err := word.New(len(words), api.MaxVersion)
	if err != nil {
		t.Fatal(err)
	}
	for i, w := range words {
		s.Set(i, w)
	}
	x := tx.New(s.Len())
	for i, ok := x.Run(f); !ok; i, ok = x.Run(f) {
		c, _ := s.Read(i)
		x.Learn(i, c)
	}
	got := slices.Clone(words)
	for _, e := range x.Entries() {
		got[e.Cell] = e.New
	}
	return got, x.Reads()
}

// P11.1, P11.2: of a view that isn't a plain one, a record, all comes to what a
// plain view does; a look-up of the most times takes no more cells than a call
// may read, nor any that it needn't: of each step an object's three words and a slot's.
func TestOfRecords(t *testing.T) {
	before, root := chain(slices.Repeat([]int{1}, 16)...)
	got, reads := done(t, before, func(v view.View) {
		n, err := Lookup(v, root, 0)
		if n != 15 || err != nil || Cap(v, 14) != cnode(15, 0, 1) {
			Set(v, 0, api.Cap{})
		}
	})
	if reads > 4*16 {
		t.Errorf("%d cells are read", reads)
	}
	stays(t, "looked up, of a record", got, before)

	got, _ = done(t, before, func(v view.View) {
		Set(v, 14, cnode(0, 0, 0))
		if _, err := Lookup(v, root, 0); errors.Is(err, api.ErrDepth) && !Fine(v, Cap(v, 20)) {
			Set(v, 20, Cap(v, 14))
		}
	})
	want := slices.Clone(before)
	holds(want, 14, cnode(0, 0, 0))
	holds(want, 20, cnode(0, 0, 0))
	stays(t, "set, of a record", got, want)
}

// P11.1, P11.2: by many at once (layer 8), in any order of steps, all comes to
// what is done one behind the other, in the log's order.
func TestAtOnce(t *testing.T) {
	var d dice
	for range 30 {
		before := twoSteps()
		s, err := word.New(allWords, api.MaxVersion)
		if err != nil {
			t.Fatal(err)
		}
		for i, w := range before {
			s.Set(i, w)
		}
		// Each sets what leads on from one of few slots, or looks up there.
		job := func(worker, k int) stm.Job {
			return func(v view.View) int {
				slot := 16 + (worker+k)%3
				if (worker+k)%2 == 0 && Set(v, slot, cnode(2, worker, 8)) != nil {
					return -1
				}
				n, err := Lookup(v, cnode(1, 0, 0), (slot-16)<<13|(worker+1)%4<<5|k)
				var c api.Code
				if errors.As(err, &c) {
					return -int(c)
				}
				return n
			}
		}
		var feeds []stm.Feed
		for worker := range 4 {
			var jobs []stm.Job
			for k := range 5 {
				jobs = append(jobs, job(worker, k))
			}
			feeds = append(feeds, stm.List(jobs))
		}
		m, err := stm.New(s, feeds)
		if err != nil {
			t.Fatal(err)
		}
		for !m.Idle() {
			m.Step(d.roll(4))
		}
		for _, e := range m.Log() {
			if n := job(e.Worker, e.Job)(before); n != e.Told {
				t.Fatalf("job %d of worker %d told %d, in the log's order %d", e.Job, e.Worker, e.Told, n)
			}
		}
		stays(t, "at once", s.Values(), before)
	}
}
