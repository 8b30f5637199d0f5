package space

import (
	"math"
	"slices"
	"testing"

	"padstone/api"
	"padstone/stm"
	"padstone/tx"
	"padstone/view"
	"padstone/word"
)

// dice are numbers from a short rule: the same ones in each run.
type dice uint64

func (d *dice) roll(n int) int {
	*d = *d*6364136223846793005 + 1442695040888963407
	return int(uint64(*d) >> 33 % uint64(n))
}

// of is one of a list.
func (d *dice) of(l ...int) int { return l[d.roll(len(l))] }

// word is one of a list of words.
func (d *dice) word(l []uint64) uint64 { return l[d.roll(len(l))] }

// mostly is one of the first n numbers, or, now and then, one of a list.
func (d *dice) mostly(n int, l []int) int {
	if d.roll(30) == 0 {
		return d.of(l...)
	}
	return d.roll(n)
}

// named is what a call was, by what it told.
func named(what string, err error) string {
	if err == nil {
		return what
	}
	return what + ": " + err.Error()
}

// sound holds P18.2 of words, by their numbers: each frame is told by one page at
// most, and that is the one that it tells; each page tells a frame that tells it.
func sound(t *testing.T, p view.Plain) {
	t.Helper()
	told := map[int]int{}
	for _, space := range someSpaces {
		for page := range 4 {
			w := p[at(space, f1+page)]
			if w == 0 {
				continue
			}
			frame := int(w/8) - 1
			told[frame]++
			if !slices.Contains(someFrames, frame) || p[at(frame, f1)] != uint64(space+1) || p[at(frame, f2)] != uint64(page) {
				t.Errorf("page %d of %d tells %d, which doesn't tell it", page, space, frame)
			}
		}
	}
	for _, frame := range someFrames {
		if n := p[at(frame, f1)]; told[frame] > 1 || (n != 0) != (told[frame] == 1) || n == 0 && p[at(frame, f2)] != 0 {
			t.Errorf("frame %d tells %d, page %d, and is told by %d pages", frame, n, p[at(frame, f2)], told[frame])
		}
	}
}

// P18.1, P18.2: calls of any objects, pages, rights, one behind the other, as a model
// has it, word by word.
func TestLaws(t *testing.T) {
	var d dice
	seen := map[string]int{}
	for round := range 150 {
		w := begun()
		p := w.words()
		for range 150 {
			var what string
			if frame := d.of(d.of(someFrames...), d.mostly(allObjs, noObjs)); d.roll(3) == 0 {
				what = named("Unmap", unmapsOne(t, "laws", p, w, frame))
			} else {
				space := d.of(d.of(someSpaces...), d.of(someSpaces...), d.mostly(allObjs, noObjs))
				what = named("Map", mapsOne(t, "laws", p, w, frame, space, d.mostly(4, noPages), d.mostly(8, noRights)))
			}
			seen[what]++
			sound(t, p)
			if t.Failed() {
				t.Fatalf("round %d, %s", round, what)
			}
		}
	}
	for _, what := range []string{"Map", named("Map", api.ErrNone), named("Map", api.ErrArg), named("Map", api.ErrState),
		named("Map", api.ErrTaken), "Unmap", named("Unmap", api.ErrNone), named("Unmap", api.ErrState)} {
		if seen[what] < 200 {
			t.Errorf("%s %d times", what, seen[what])
		}
	}
}

// P18.2: as many frames as there are pages, and more: all pages of all spaces, once
// each, whatever the order in which they are asked for.
func TestAllPages(t *testing.T) {
	var d dice
	for range 100 {
		w := world{mapped: map[int]place{}}
		for i := range allObjs {
			if d.roll(6) == 0 {
				w.spaces = append(w.spaces, i)
			} else {
				w.frames = append(w.frames, i)
			}
		}
		p := w.words()
		asked := 0
		for _, frame := range w.frames {
			for _, space := range w.spaces {
				page := d.roll(4)
				tells(t, "all pages", Map(p, frame, space, page, frame%8), w.maps(frame, space, page, frame%8))
				asked++
			}
		}
		like(t, "all pages", p, w)
		if asked > 0 && (len(w.mapped) == 0 || len(w.mapped) > 4*len(w.spaces)) {
			t.Fatalf("%d frames are mapped in %d spaces", len(w.mapped), len(w.spaces))
		}
		for _, frame := range w.frames {
			tells(t, "all pages", Unmap(p, frame), w.unmaps(frame))
		}
		like(t, "all pages, unmapped", p, w)
	}
}

// Words that no call left. What is to be done to them is told here once more, by
// numbers of words.

// raw are such words.
type raw view.Plain

func (p raw) read(i, field int) uint64 { return view.Plain(p).Read(at(i, field)) }

func (p raw) put(i, field int, n uint64) { view.Plain(p).Write(at(i, field), n) }

// is tells whether an object is of a kind.
func (p raw) is(i int, k uint64) bool { return i >= 0 && i < allObjs && p.read(i, kind) == k }

// page is the one frame, by the one rights, whose word that of a page is.
func (p raw) page(space, page int) (int, int, bool) {
	if !p.is(space, api.Space) || page < 0 || page > 3 {
		return 0, 0, false
	}
	for frame := range allObjs {
		for rights := range 8 {
			if p.read(space, f1+page) == uint64(8+8*frame+rights) {
				return frame, rights, true
			}
		}
	}
	return 0, 0, false
}

// in is the object that a frame is told to be mapped in, or -1.
func (p raw) in(frame int) int {
	for obj := range allObjs {
		if p.read(frame, f1) == uint64(obj+1) {
			return obj
		}
	}
	return -1
}

func (p raw) maps(frame, space, page, rights int) error {
	_, _, taken := p.page(space, page)
	switch {
	case !p.is(frame, api.Frame), !p.is(space, api.Space):
		return api.ErrNone
	case page < 0, page > 3, rights < 0, rights > 7:
		return api.ErrArg
	case p.in(frame) >= 0:
		return api.ErrState
	case taken:
		return api.ErrTaken
	}
	p.put(space, f1+page, uint64(8+8*frame+rights))
	p.put(frame, f1, uint64(space+1))
	p.put(frame, f2, uint64(page))
	return nil
}

func (p raw) unmaps(frame int) error {
	if !p.is(frame, api.Frame) {
		return api.ErrNone
	}
	space := p.in(frame)
	if space < 0 {
		return api.ErrState
	}
	page := p.read(frame, f2)
	if page > 1<<62 {
		page = 0
	}
	if page < 4 {
		if other, _, is := p.page(space, int(page)); is && other == frame {
			p.put(space, f1+int(page), 0)
		}
	}
	p.put(frame, f1, 0)
	p.put(frame, f2, 0)
	return nil
}

// littered are words in which the fields of the first n objects, most of which are
// Frames and Spaces, tell any of them, and any place, or none, or nothing at all.
func (d *dice) littered(n int) view.Plain {
	p := begun().words()
	for i := range n {
		p[at(i, kind)] = uint64(d.of(api.Frame, api.Frame, api.Space, api.Space, api.Endpoint, 1<<40))
		if p[at(i, kind)] == api.Frame {
			p[at(i, f1)], p[at(i, f2)] = uint64(d.of(0, d.roll(n+1))), uint64(d.of(d.roll(4), d.roll(8)))
			if d.roll(8) == 0 {
				p[at(i, d.of(f1, f2))] = d.word(noLinks)
			}
			continue
		}
		for field := f1; field <= f7; field++ {
			p[at(i, field)] = uint64(d.of(0, d.roll(8*(n+1))))
			if d.roll(16) == 0 {
				p[at(i, field)] = d.word(noFrames)
			}
		}
	}
	// Some frames are told by what they tell, at whatever page.
	for range n {
		frame, space, page := d.roll(n), d.roll(n), d.roll(8)
		if p[at(frame, kind)] == api.Frame && p[at(space, kind)] != api.Frame {
			p[at(frame, f1)], p[at(frame, f2)] = uint64(space+1), uint64(page)
			p[at(space, (f1+page)%8)] = uint64(8*(frame+1) + d.roll(8))
		}
	}
	return p
}

// anyCall does a call to words, and the same one to others as it is told here, and
// tells what it was.
func (d *dice) anyCall(t *testing.T, p view.Plain, want raw, n int) string {
	t.Helper()
	frame, space := d.mostly(n, noObjs), d.mostly(n, noObjs)
	page, rights := d.mostly(4, noPages), d.mostly(8, noRights)
	for range 3 {
		if !want.is(frame, api.Frame) {
			frame = d.mostly(n, noObjs)
		}
		if !want.is(space, api.Space) {
			space = d.mostly(n, noObjs)
		}
	}
	switch d.roll(3) {
	case 0:
		err := want.maps(frame, space, page, rights)
		tells(t, "littered", Map(p, frame, space, page, rights), err)
		return named("Map", err)
	case 1:
		err := want.unmaps(frame)
		tells(t, "littered", Unmap(p, frame), err)
		return named("Unmap", err)
	}
	other, rights, is := want.page(space, page)
	pages(t, "littered", p, space, page, other, rights, is)
	return map[bool]string{false: "Page of none", true: "Page"}[is]
}

// P18.1, P1 of the whole, R3: whatever the words, each call ends, and does what its
// promise says.
func TestLittered(t *testing.T) {
	var d dice
	seen := map[string]int{}
	for round := range 20000 {
		n := []int{2, 3, 6, 20, 32}[round%5]
		p := d.littered(n)
		want := raw(slices.Clone(p))
		for range 8 {
			what := d.anyCall(t, p, want, n)
			seen[what]++
			if !slices.Equal(p, view.Plain(want)) || t.Failed() {
				t.Fatalf("round %d, %s: %v, of %v", round, what, view.Changed(view.Plain(want), p), view.Changed(p, view.Plain(want)))
			}
		}
	}
	for _, what := range []string{"Map", named("Map", api.ErrNone), named("Map", api.ErrArg), named("Map", api.ErrState),
		named("Map", api.ErrTaken), "Unmap", named("Unmap", api.ErrNone), named("Unmap", api.ErrState), "Page", "Page of none"} {
		if seen[what] < 1000 {
			t.Errorf("%s %d times", what, seen[what])
		}
	}
}

// P18.1: a frame that tells another place than the page that tells it, what is no
// Space, or no page: it is unmapped, and no word but its own ones is changed.
func TestUnmapFrees(t *testing.T) {
	for _, x := range []struct {
		f1, f2 uint64
		free   int // the page of object 8 that is freed, or -1
	}{
		{9, 0, 0}, {9, 3, 3}, {9, 1, -1}, {9, 2, -1}, // told by pages 0 and 3; 1 is another one's, 2 is none's
		{9, 4, -1}, {9, 5, -1}, {9, 6, -1}, {9, 7, -1}, {9, 8, -1}, {9, 1 << 32, -1}, {9, 1 << 62, -1}, // no page
		{9, 1<<62 + 1, 0}, {9, 1<<63 + 1, 0}, {9, math.MaxUint64, 0}, // above what a field tells: 0
		{2, 0, -1}, {32, 3, -1}, // another space
		{7, 0, -1}, {6, 3, -1}, {11, 0, -1}, {10, 0, -1}, {14, 1, -1}, // no Space, and the frame itself
	} {
		p := begun().with(10, 8, 1, 5).words()
		for _, obj := range []int{8, 5, 6, 13} {
			p[at(obj, f1)], p[at(obj, f4)] = 8*10+3, 8*10
		}
		// Fields behind the pages, as if there were more of them.
		for field := f5; field <= f7; field++ {
			p[at(8, field)] = 8*10 + 3
		}
		p[at(9, f1)], p[at(9, f2)] = x.f1, x.f2
		want := slices.Clone(p)
		tells(t, "mapped", Map(p, 9, 1, 1, 3), api.ErrState)
		stays(t, "mapped", p, want)
		tells(t, "unmapped", Unmap(p, 9), nil)
		want[at(9, f1)], want[at(9, f2)] = 0, 0
		if x.free >= 0 {
			want[at(8, f1+x.free)] = 0
		}
		stays(t, "unmapped", p, want)
		tells(t, "unmapped", Unmap(p, 9), api.ErrState)
		tells(t, "unmapped", Map(p, 9, 1, 1, 3), nil)
		if t.Failed() {
			t.Fatal(x)
		}
	}
}

// P18.1: a frame that tells no object is mapped nowhere, whatever its page, and what
// pages tell of it stays.
func TestNoLink(t *testing.T) {
	for _, w := range noLinks {
		for _, page := range []uint64{0, 2, 3, 4, 1 << 63} {
			p := begun().with(10, 8, 1, 5).words()
			p[at(9, f1)], p[at(9, f2)] = w, page
			p[at(8, f1)], p[at(8, f4)] = 8*10+3, 8*10
			want := slices.Clone(p)
			tells(t, "no space", Unmap(p, 9), api.ErrState)
			stays(t, "no space", p, want)
			tells(t, "taken", Map(p, 9, 8, 1, 0), api.ErrTaken)
			tells(t, "taken by itself", Map(p, 9, 8, 3, 0), api.ErrTaken)
			stays(t, "no space", p, want)
			tells(t, "no space", Map(p, 9, 8, 2, 6), nil)
			want[at(9, f1)], want[at(9, f2)], want[at(8, f3)] = 9, 2, 8*10+6
			stays(t, "no space", p, want)
		}
	}
}

// P18.1: a page's word that tells no frame that there is: nothing is mapped there; one
// that tells an object, of whatever Kind and place, tells it.
func TestPageWords(t *testing.T) {
	for page := range 4 {
		for _, w := range noFrames {
			p := begun().words()
			p[at(8, f1+page)] = w
			want := slices.Clone(p)
			pages(t, "no frame", p, 8, page, 0, 0, false)
			stays(t, "Page", p, want)
			tells(t, "no frame", Map(p, 9, 8, page, 4), nil)
			want[at(8, f1+page)], want[at(9, f1)], want[at(9, f2)] = 84, 9, uint64(page)
			stays(t, "no frame", p, want)
		}
		for n := range 256 {
			p := begun().words()
			p[at(8, f1+page)] = uint64(8 + n)
			want := slices.Clone(p)
			pages(t, "any object", p, 8, page, n/8, n%8, true)
			tells(t, "any object", Map(p, 9, 8, page, 4), api.ErrTaken)
			if slices.Contains(someFrames, n/8) {
				tells(t, "another place", Unmap(p, n/8), api.ErrState)
			}
			stays(t, "any object", p, want)
		}
	}
}

// P18.1, P1 of the whole: views that have fewer words than there are read 0 there, and
// nothing is written; of one that has more, those behind all stay.
func TestOtherViews(t *testing.T) {
	var d dice
	for _, words := range []int{0, 1, 480, 481, 482, 483, 484, 485, 486, 487, 488, 490, 493, 495, 500, 600, 730, 735, 736, 737, 738, 739, 900} {
		for range 200 {
			all := append(d.littered(20), slices.Repeat([]uint64{6, 1, 7}, 60)...)
			p := all[:words:words]
			want, rest := raw(slices.Clone(p)), slices.Clone(all[words:])
			for range 6 {
				d.anyCall(t, p, want, 20)
				stays(t, "another view", p, view.Plain(want))
				stays(t, "behind another view", all[words:], rest)
			}
		}
	}
	var p view.Plain
	for _, i := range append([]int{0, 31}, noObjs...) {
		tells(t, "of no words", Map(p, i, i, 0, 0), api.ErrNone)
		tells(t, "of no words", Unmap(p, i), api.ErrNone)
		pages(t, "of no words", p, i, 0, 0, 0, false)
	}
	// A Frame, and of a Space its Kind's word alone: that frame is mapped, and no page tells it.
	w := world{[]int{3}, []int{8}, map[int]place{}}
	p = w.words()[:at(8, kind)+1]
	want := slices.Clone(p)
	tells(t, "of a Kind alone", Map(p, 3, 8, 2, 7), nil)
	want[at(3, f1)], want[at(3, f2)] = 9, 2
	stays(t, "of a Kind alone", p, want)
	pages(t, "of a Kind alone", p, 8, 2, 0, 0, false)
	tells(t, "of a Kind alone", Map(p, 3, 8, 1, 7), api.ErrState)
	tells(t, "of a Kind alone", Unmap(p, 3), nil)
	stays(t, "of a Kind alone", p, w.words()[:at(8, kind)+1])
}

// storeOf is a store of words.
func storeOf(t *testing.T, words view.Plain) *word.Store {
	t.Helper()
	s, err := word.New(len(words), api.MaxVersion)
	if err != nil {
		t.Fatal(err)
	}
	for i, w := range words {
		s.Set(i, w)
	}
	return s
}

// done is what a function does to words, as a record (layer 6) has it that learns
// a store's cells, and of how many cells.
func done(t *testing.T, words view.Plain, f func(v view.View)) (view.Plain, int) {
	t.Helper()
	s, r := storeOf(t, words), tx.New(len(words))
	for i, ok := r.Run(f); !ok; i, ok = r.Run(f) {
		c, _ := s.Read(i)
		r.Learn(i, c)
	}
	got := slices.Clone(words)
	for _, e := range r.Entries() {
		got[e.Cell] = e.New
	}
	return got, r.Reads()
}

// P18.1: of a view that isn't a plain one, a record, all comes to what a plain view
// does; of few cells.
func TestOfRecords(t *testing.T) {
	var d dice
	for range 500 {
		frame, space, page, rights := d.roll(20), d.roll(20), d.mostly(4, noPages), d.mostly(8, noRights)
		var err error
		told := [3]int{}
		calls := []func(v view.View){
			func(v view.View) { err = Map(v, frame, space, page, rights) },
			func(v view.View) { err = Unmap(v, frame) },
			func(v view.View) {
				var is bool
				told[0], told[1], is = Page(v, space, page)
				told[2] = map[bool]int{true: 1}[is]
			},
		}
		for k, f := range calls {
			p := d.littered(20)
			p[at(frame, kind)] = api.Frame
			got, reads := done(t, p, f)
			toldOnce, errOnce := told, err
			f(p)
			stays(t, "of a record", got, p)
			if told != toldOnce || named("", err) != named("", errOnce) {
				t.Errorf("call %d tells %v, %v of a record, %v, %v of a plain view", k, toldOnce, errOnce, told, err)
			}
			if reads > []int{5, 5, 2}[k] {
				t.Errorf("call %d reads %d cells", k, reads)
			}
		}
	}
}

// atOnce is a job that does some call, and tells its error's code, or what it told.
func (d *dice) atOnce() stm.Job {
	frame, space, page, rights := d.of(someFrames[:3]...), d.of(someSpaces[:2]...), d.roll(2), d.roll(8)
	code := func(err error) int {
		if err == nil {
			return 0
		}
		return int(err.(api.Code))
	}
	switch d.roll(5) {
	case 0, 1:
		return func(v view.View) int { return code(Map(v, frame, space, page, rights)) }
	case 2, 3:
		return func(v view.View) int { return code(Unmap(v, frame)) }
	}
	return func(v view.View) int {
		n, r, is := Page(v, space, page)
		if !is {
			return 50
		}
		return 100 + 8*n + r
	}
}

// P18.1, P18.2: done by many at once (layer 8), in any order of steps, all comes to
// what is done one behind the other, in the log's order.
func TestAtOnce(t *testing.T) {
	const workers, each = 4, 8
	var d dice
	told := map[int]int{}
	for range 300 {
		p := begun().words()
		var jobs [workers][]stm.Job
		var feeds []stm.Feed
		for worker := range jobs {
			for range each {
				jobs[worker] = append(jobs[worker], d.atOnce())
			}
			feeds = append(feeds, stm.List(jobs[worker]))
		}
		s := storeOf(t, p)
		m, err := stm.New(s, feeds)
		if err != nil {
			t.Fatal(err)
		}
		for !m.Idle() {
			m.Step(d.roll(workers))
		}
		log := m.Log()
		if len(log) != workers*each {
			t.Fatal("jobs that came to an end:", len(log))
		}
		for _, e := range log {
			if n := jobs[e.Worker][e.Job](p); n != e.Told {
				t.Fatalf("job %d of worker %d told %d, in the log's order %d", e.Job, e.Worker, e.Told, n)
			}
			told[min(e.Told, 100)]++
		}
		stays(t, "at once", s.Values(), p)
		sound(t, s.Values())
	}
	for _, n := range []int{0, int(api.ErrState), int(api.ErrTaken), 50, 100} {
		if told[n] < 100 {
			t.Errorf("%d was told %d times", n, told[n])
		}
	}
}
