package space

import (
	"errors"
	"maps"
	"math"
	"slices"
	"testing"

	"padstone/api"
	"padstone/view"
)

// Words of objects, as layer 9's chapter counts them: eight an object, behind all slots.
const (
	objsAt   = 480
	objWords = 8
	kind     = 0
	f1       = 1
	f2       = 2
	f3       = 3
	f4       = 4
	f5       = 5
	f7       = 7
	allObjs  = 32
	allWords = 738
)

// at is the number of an object's word.
func at(obj, field int) int { return objsAt + objWords*obj + field }

// noObjs are numbers that no object has. Eight times some of them wraps round, to
// a word that is there.
var noObjs = []int{-1, -2, -8, -32, -33, -60, -61, -1 << 32, -1 << 60, -1<<61 + 3, -1 << 61, -1 << 62, -1<<62 + 5,
	math.MinInt + 1, math.MinInt, 32, 33, 34, 64, 96, 480, 737, 1 << 32, 1<<32 + 1, 1<<60 + 1, 1 << 61, 1<<61 + 3,
	1 << 62, 1<<62 + 5, math.MaxInt - 1, math.MaxInt}

// noPages are numbers that no page has; cut off, some would be, or words of the
// Space's, or of its neighbours'.
var noPages = []int{-1, -2, -3, -4, -7, -8, -256, -1 << 32, -1<<61 + 1, -1 << 62, math.MinInt, math.MinInt + 1, 4, 5, 6, 7, 8, 9,
	11, 16, 256, 257, 65536, 1 << 31, 1 << 32, 1<<32 + 1, 1 << 61, 1 << 62, math.MaxInt - 1, math.MaxInt}

// noRights are numbers that are no rights; cut off, or counted together with a
// frame's number, some would be.
var noRights = []int{-1, -2, -7, -8, -9, -16, -80, -256, -1 << 32, -1 << 62, math.MinInt, math.MinInt + 1, 8, 9, 10, 15, 16, 23,
	64, 255, 256, 259, 1 << 31, 1 << 32, 1<<32 + 3, 1 << 61, 1 << 62, math.MaxInt - 1, math.MaxInt}

// noLinks are words that tell no object; cut off, or as signed numbers, some would.
var noLinks = []uint64{0, 33, 34, 64, 96, 1 << 8, 1<<8 + 1, 1 << 16, 1<<16 + 1, 1 << 31, 1 << 32, 1<<32 + 1,
	1<<62 - 1, 1 << 62, 1<<62 + 1, 1<<63 - 1, 1 << 63, 1<<63 + 1, math.MaxUint64 - 1, math.MaxUint64}

// noFrames are pages' words that tell no frame; cut off, some would.
var noFrames = []uint64{0, 1, 2, 3, 6, 7, 264, 265, 271, 272, 8 * 64, 1 << 16, 1<<16 + 80, 1<<32 + 80, 1<<61 + 80, 1<<62 - 1,
	1 << 62, 1<<62 + 80, 1<<63 - 8, 1 << 63, 1<<63 + 80, math.MaxUint64 - 7, math.MaxUint64}

// otherKinds are Kinds' words of what is neither a Frame nor a Space; cut off, some would be.
var otherKinds = []uint64{api.Null, api.Untyped, api.CNode, api.Endpoint, api.Ntfn, api.Thread, api.Irq, 9, 16 + 6, 16 + 7,
	256 + 6, 256 + 7, 1<<16 + 7, 1<<32 + 6, 1<<32 + 7, 1<<62 + 6, 1<<63 + 7, 1 << 62, 1<<62 + 1, math.MaxUint64}

// place is where a frame is mapped, and by which rights.
type place struct{ space, page, rights int }

// world are Frames and Spaces, and of each frame that is mapped where it is.
type world struct {
	frames, spaces []int
	mapped         map[int]place
}

// someFrames and someSpaces are those of a world; others are of no kind that there is,
// or of the others.
var (
	someFrames = []int{0, 3, 9, 10, 15, 30}
	someSpaces = []int{1, 8, 31}
	someOthers = map[int]int{4: api.Untyped, 5: api.CNode, 6: api.Endpoint, 7: api.Ntfn, 11: api.Thread, 12: api.Irq, 13: api.Null}
)

// begun is a world in which nothing is mapped.
func begun() world { return world{someFrames, someSpaces, map[int]place{}} }

// with is that world, and a frame that is mapped.
func (w world) with(frame, space, page, rights int) world {
	w.mapped = maps.Clone(w.mapped)
	w.mapped[frame] = place{space, page, rights}
	return w
}

// words are such in which that world is, all others of which are unlike each other.
func (w world) words() view.Plain {
	p := make(view.Plain, allWords)
	for i := range p {
		p[i] = uint64(1000 + i)
	}
	for i, k := range someOthers {
		p[at(i, kind)] = uint64(k)
	}
	for _, i := range w.frames {
		p[at(i, kind)], p[at(i, f1)], p[at(i, f2)] = api.Frame, 0, 0
	}
	for _, i := range w.spaces {
		p[at(i, kind)], p[at(i, f1)], p[at(i, f2)], p[at(i, f3)], p[at(i, f4)] = api.Space, 0, 0, 0, 0
	}
	for i, x := range w.mapped {
		p[at(i, f1)], p[at(i, f2)] = uint64(x.space+1), uint64(x.page)
		p[at(x.space, f1+x.page)] = uint64(8*(i+1) + x.rights)
	}
	return p
}

// page is what Page is to tell of a world.
func (w world) page(space, page int) (int, int, bool) {
	for i, x := range w.mapped {
		if x.space == space && x.page == page {
			return i, x.rights, true
		}
	}
	return 0, 0, false
}

// maps is what Map is to tell, and make of a world.
func (w world) maps(frame, space, page, rights int) error {
	if !slices.Contains(w.frames, frame) || !slices.Contains(w.spaces, space) {
		return api.ErrNone
	}
	if !slices.Contains([]int{0, 1, 2, 3}, page) || !slices.Contains([]int{0, 1, 2, 3, 4, 5, 6, 7}, rights) {
		return api.ErrArg
	}
	if _, is := w.mapped[frame]; is {
		return api.ErrState
	}
	if _, _, is := w.page(space, page); is {
		return api.ErrTaken
	}
	w.mapped[frame] = place{space, page, rights}
	return nil
}

// unmaps is what Unmap is to tell, and make of a world.
func (w world) unmaps(frame int) error {
	if !slices.Contains(w.frames, frame) {
		return api.ErrNone
	}
	if _, is := w.mapped[frame]; !is {
		return api.ErrState
	}
	delete(w.mapped, frame)
	return nil
}

// stays holds that words are just those.
func stays(t *testing.T, what string, p, want view.Plain) {
	t.Helper()
	if !slices.Equal(p, want) {
		t.Errorf("%s: words unlike those that are to be: %v, of %v", what, view.Changed(want, p), view.Changed(p, want))
	}
}

// tells holds an error, itself, against what it is to be.
func tells(t *testing.T, what string, err, want error) {
	t.Helper()
	if !errors.Is(err, want) || want == nil && err != nil {
		t.Errorf("%s: %v, want %v", what, err, want)
	}
	if c, ok := err.(api.Code); err != nil && (!ok || c != want) {
		t.Errorf("%s: %v isn't the Code itself", what, err)
	}
}

// pages holds what Page tells against what it is to tell.
func pages(t *testing.T, what string, v view.View, space, page, frame, rights int, one bool) {
	t.Helper()
	if f, r, is := Page(v, space, page); f != frame || r != rights || is != one {
		t.Errorf("%s: page %d of %d: %d, %d, %v, want %d, %d, %v", what, page, space, f, r, is, frame, rights, one)
	}
}

// like holds words against a world's, and what Page tells of each page, of pages that
// there aren't, and of what is no Space.
func like(t *testing.T, what string, p view.Plain, w world) {
	t.Helper()
	want := w.words()
	for space := -2; space < allObjs+2; space++ {
		for page := -2; page < 8; page++ {
			frame, rights, is := w.page(space, page)
			pages(t, what, p, space, page, frame, rights, is)
		}
	}
	stays(t, what, p, want)
}

// mapsOne calls Map, and holds what it tells, and each word, against a world.
func mapsOne(t *testing.T, what string, p view.Plain, w world, frame, space, page, rights int) error {
	t.Helper()
	want := w.maps(frame, space, page, rights)
	tells(t, what, Map(p, frame, space, page, rights), want)
	like(t, what, p, w)
	return want
}

// unmapsOne calls Unmap, and holds what it tells, and each word, against a world.
func unmapsOne(t *testing.T, what string, p view.Plain, w world, frame int) error {
	t.Helper()
	want := w.unmaps(frame)
	tells(t, what, Unmap(p, frame), want)
	like(t, what, p, w)
	return want
}

// The chapter's example: Map, Page: the frame.
func TestExample(t *testing.T) {
	p := make(view.Plain, allWords)
	p[at(9, kind)], p[at(8, kind)] = api.Frame, api.Space
	tells(t, "Map", Map(p, 9, 8, 2, 3), nil)
	pages(t, "Page", p, 8, 2, 9, 3, true)
}

// P18.1: one call behind the other, each word by word, as numbers.
func TestWords(t *testing.T) {
	p, want := make(view.Plain, allWords), make(view.Plain, allWords)
	set := func(obj int, l ...int) {
		for i, n := range l {
			want[at(obj, i)] = uint64(n)
		}
	}
	set(0, 6)
	set(1, 7)
	set(31, 6)
	copy(p, want)

	pages(t, "none", p, 1, 0, 0, 0, false)
	tells(t, "the first object", Map(p, 0, 1, 0, 0), nil)
	set(0, 6, 2, 0)
	set(1, 7, 8)
	stays(t, "the first object", p, want)
	pages(t, "the first object", p, 1, 0, 0, 0, true)
	tells(t, "the last object", Map(p, 31, 1, 3, 7), nil)
	set(31, 6, 2, 3)
	set(1, 7, 8, 0, 0, 263)
	stays(t, "the last object", p, want)
	pages(t, "the last object", p, 1, 3, 31, 7, true)
	pages(t, "in between", p, 1, 1, 0, 0, false)
	tells(t, "unmapped", Unmap(p, 31), nil)
	set(31, 6, 0, 0)
	set(1, 7, 8, 0, 0, 0)
	stays(t, "unmapped", p, want)
	pages(t, "unmapped", p, 1, 3, 0, 0, false)
	tells(t, "again", Unmap(p, 31), api.ErrState)
	stays(t, "again", p, want)
	tells(t, "elsewhere", Map(p, 31, 1, 2, 5), nil)
	set(31, 6, 2, 2)
	set(1, 7, 8, 0, 261)
	stays(t, "elsewhere", p, want)
	tells(t, "the first object", Unmap(p, 0), nil)
	set(0, 6, 0, 0)
	set(1, 7, 0)
	stays(t, "the first object, unmapped", p, want)
	pages(t, "the other one", p, 1, 2, 31, 5, true)
}

// P18.1: each page by each rights: what Page tells, and each word.
func TestMap(t *testing.T) {
	for _, space := range someSpaces {
		for _, frame := range someFrames {
			for page := range 4 {
				for rights := range 8 {
					w := begun()
					p := w.words()
					if err := mapsOne(t, "mapped", p, w, frame, space, page, rights); err != nil {
						t.Fatal(err)
					}
					if n := p[at(space, f1+page)]; n != uint64(8*(frame+1)+rights) {
						t.Errorf("page %d of %d has word %d", page, space, n)
					}
					if p[at(frame, f1)] != uint64(space+1) || p[at(frame, f2)] != uint64(page) {
						t.Errorf("frame %d tells %d, page %d", frame, p[at(frame, f1)], p[at(frame, f2)])
					}
					unmapsOne(t, "unmapped", p, w, frame)
					unmapsOne(t, "unmapped again", p, w, frame)
				}
			}
		}
	}
}

// P18.1: of all objects each as the frame, and each as the space; the first one, the
// last one, and those beside each other.
func TestAllObjects(t *testing.T) {
	for frame := range allObjs {
		for space := range allObjs {
			w := world{[]int{frame}, []int{space}, map[int]place{}}
			if frame == space {
				w.frames = nil
			}
			p := w.words()
			what := map[bool]string{true: "itself", false: "any objects"}[frame == space]
			want := w.maps(frame, space, 3, 4)
			tells(t, what, Map(p, frame, space, 3, 4), want)
			stays(t, what, p, w.words())
			pages(t, what, p, space, 3, map[bool]int{want == nil: frame}[true], map[bool]int{want == nil: 4}[true], want == nil)
			tells(t, what, Unmap(p, frame), w.unmaps(frame))
			stays(t, what, p, w.words())
		}
	}
}

// full is a world in which some frames are mapped, others not.
func full() world {
	return begun().with(0, 1, 0, 7).with(3, 1, 3, 0).with(9, 8, 1, 3).with(30, 31, 2, 5)
}

// P18.1, R1, R3, P1 of the whole: objects that there aren't, as the frame, as the space,
// and both, whatever else is wrong: no word is changed.
func TestNone(t *testing.T) {
	w := full()
	p := append(w.words(), w.words()...)
	before := slices.Clone(p)
	for _, no := range noObjs {
		for _, page := range append([]int{0, 1, 3}, noPages...) {
			for _, rights := range []int{0, 7, -1, 8, math.MinInt, math.MaxInt} {
				for _, other := range []int{0, 10, 9, 1, 8, no} {
					tells(t, "no frame", Map(p, no, other, page, rights), api.ErrNone)
					tells(t, "no space", Map(p, other, no, page, rights), api.ErrNone)
				}
			}
			pages(t, "no space", p, no, page, 0, 0, false)
		}
		tells(t, "no frame", Unmap(p, no), api.ErrNone)
	}
	stays(t, "none", p, before)
}

// P18.1, R1, R3: objects of every other Kind, whose fields would do, a frame in the
// space's place, and the other way round.
func TestKinds(t *testing.T) {
	for _, k := range otherKinds {
		p := full().words()
		p[at(10, kind)], p[at(9, kind)] = k, k
		for _, i := range someSpaces {
			q := slices.Clone(p)
			q[at(i, kind)] = k
			before := slices.Clone(q)
			for page := -1; page < 5; page++ {
				for _, frame := range []int{15, 10, 9, 0} {
					tells(t, "no Space", Map(q, frame, i, page, 3), api.ErrNone)
				}
				pages(t, "no Space", q, i, page, 0, 0, false)
			}
			stays(t, "no Space", q, before)
		}
		before := slices.Clone(p)
		for _, frame := range []int{9, 10} {
			for _, page := range []int{0, 2, 3, -1, 4} {
				for _, rights := range []int{3, 8} {
					tells(t, "no Frame", Map(p, frame, 8, page, rights), api.ErrNone)
				}
			}
			tells(t, "no Frame", Unmap(p, frame), api.ErrNone)
		}
		stays(t, "no Frame", p, before)
	}
	w := full()
	p := w.words()
	for i := range allObjs {
		for j := range allObjs {
			if slices.Contains(someFrames, i) && slices.Contains(someSpaces, j) {
				continue
			}
			for _, page := range []int{0, 3, 4} {
				tells(t, "of other Kinds", Map(p, i, j, page, 3), api.ErrNone)
			}
		}
		if !slices.Contains(someFrames, i) {
			tells(t, "of another Kind", Unmap(p, i), api.ErrNone)
		}
	}
	like(t, "of other Kinds", p, w)
}

// P18.1, R3: pages, and rights, that there aren't: no word is changed.
func TestArg(t *testing.T) {
	for _, frame := range someFrames {
		for _, space := range someSpaces {
			w := full()
			p := w.words()
			for _, page := range noPages {
				for _, rights := range append([]int{0, 3, 7}, noRights...) {
					tells(t, "no page", Map(p, frame, space, page, rights), api.ErrArg)
				}
				pages(t, "no page", p, space, page, 0, 0, false)
			}
			for _, rights := range noRights {
				for page := range 4 {
					tells(t, "no rights", Map(p, frame, space, page, rights), api.ErrArg)
				}
			}
			like(t, "ErrArg", p, w)
		}
	}
}

// P18.1, R3: a frame that is mapped: at that page, at another one of that space, in
// another space, at a page that is free, or isn't: no word is changed.
func TestState(t *testing.T) {
	for at := range 4 {
		for rights := range 8 {
			w := full().with(10, 8, at, rights)
			delete(w.mapped, 9)
			w = w.with(9, 31, 0, 1)
			p := w.words()
			for _, space := range someSpaces {
				for page := range 4 {
					for to := range 8 {
						tells(t, "mapped", Map(p, 10, space, page, to), api.ErrState)
					}
				}
			}
			like(t, "mapped", p, w)
		}
	}
}

// P18.1, R3: a page at which another frame is mapped, by any rights: no word is changed.
func TestTaken(t *testing.T) {
	for page := range 4 {
		for rights := range 8 {
			for _, other := range []int{0, 9, 30} {
				w := begun().with(other, 8, page, rights)
				p := w.words()
				for to := range 8 {
					for _, frame := range []int{3, 10, 15} {
						tells(t, "taken", Map(p, frame, 8, page, to), api.ErrTaken)
					}
				}
				like(t, "taken", p, w)
				for _, space := range []int{1, 8, 31} {
					to := (page + 1) % 4
					mapsOne(t, "another page", p, w, 15, space, to, 2)
					unmapsOne(t, "another page", p, w, 15)
				}
				mapsOne(t, "another space's page", p, w, 15, 1, page, rights)
				unmapsOne(t, "another space's page", p, w, other)
				mapsOne(t, "free again", p, w, 3, 8, page, 7-rights)
			}
		}
	}
}

// P18.1, R1: of several errors the one that the promise names first.
func TestOrder(t *testing.T) {
	w := full()
	p := w.words()
	for _, x := range []struct {
		frame, space, page, rights int
		want                       error
	}{
		{8, 8, 4, 8, api.ErrNone}, {9, 9, 4, 8, api.ErrNone}, {8, 9, 1, 3, api.ErrNone}, {4, 8, -1, -1, api.ErrNone},
		{9, 4, 1, -1, api.ErrNone}, {32, 8, 1, 8, api.ErrNone}, {9, -1, 4, 0, api.ErrNone},
		{9, 8, 4, 3, api.ErrArg}, {9, 8, 1, 8, api.ErrArg}, {9, 8, -1, -1, api.ErrArg}, {9, 1, 0, 8, api.ErrArg},
		{10, 8, 1, 8, api.ErrArg}, {10, 8, 4, 7, api.ErrArg}, {10, 1, 3, -1, api.ErrArg},
		{9, 8, 1, 3, api.ErrState}, {9, 1, 0, 3, api.ErrState}, {9, 31, 2, 0, api.ErrState}, {9, 8, 0, 7, api.ErrState},
		{10, 8, 1, 3, api.ErrTaken}, {10, 1, 0, 0, api.ErrTaken}, {10, 1, 3, 7, api.ErrTaken}, {15, 31, 2, 5, api.ErrTaken},
	} {
		tells(t, "several errors", Map(p, x.frame, x.space, x.page, x.rights), x.want)
		if err := w.maps(x.frame, x.space, x.page, x.rights); err != x.want {
			t.Fatal("told here:", err, "of", x)
		}
	}
	like(t, "several errors", p, w)
	mapsOne(t, "none", p, w, 10, 1, 1, 0)
}

// P18.1: one of several is unmapped, in any order: the others stay, each at its page.
func TestUnmap(t *testing.T) {
	l := []int{0, 3, 9, 10, 30}
	for first := range l {
		for step := 1; step < len(l); step++ {
			w := full().with(10, 8, 0, 7)
			p := w.words()
			like(t, "ahead", p, w)
			unmapsOne(t, "not mapped", p, w, 15)
			for k := range l {
				frame := l[(first+k*step)%len(l)]
				if err := unmapsOne(t, "one of several", p, w, frame); err != nil {
					t.Fatal(err)
				}
				unmapsOne(t, "twice", p, w, frame)
			}
			if len(w.mapped) > 0 {
				t.Fatal("left:", w.mapped)
			}
		}
	}
}

// P18.1: mapped, unmapped, and mapped elsewhere, from each page to each one.
func TestElsewhere(t *testing.T) {
	for n := range 12 {
		for m := range 12 {
			w := begun().with(9, 1, 2, 6)
			p := w.words()
			unmapsOne(t, "ahead", p, w, 9)
			for _, k := range []int{n, m, n} {
				mapsOne(t, "mapped", p, w, 10, someSpaces[k%3], k/3, (n+m)%8)
				mapsOne(t, "mapped again", p, w, 10, someSpaces[m%3], m/3, 1)
				if err := unmapsOne(t, "unmapped", p, w, 10); err != nil {
					t.Fatal(err)
				}
			}
		}
	}
}

// P18.1: a space whose pages are all taken, another one that isn't; what is freed, and
// that alone, may be taken.
func TestFull(t *testing.T) {
	for free := range 4 {
		w := begun()
		p := w.words()
		for page := range 4 {
			mapsOne(t, "one more", p, w, someFrames[page], 8, page, 2*page)
		}
		for page := range 4 {
			mapsOne(t, "all are taken", p, w, 15, 8, page, 1)
		}
		unmapsOne(t, "one is freed", p, w, someFrames[free])
		for page := range 4 {
			if page != free {
				mapsOne(t, "taken", p, w, 15, 8, page, 1)
			}
		}
		mapsOne(t, "one is free", p, w, 15, 8, free, 1)
		mapsOne(t, "none is free", p, w, someFrames[free], 8, free, 1)
		mapsOne(t, "another space's", p, w, someFrames[free], 31, free, 1)
		if len(w.mapped) != 5 {
			t.Fatal("mapped:", w.mapped)
		}
	}
}

// P18.1: how many objects are used is not asked: an object is what its Kind says.
func TestUsed(t *testing.T) {
	for _, n := range []uint64{0, 3, 32, math.MaxUint64} {
		p := begun().words()
		p[allWords-1] = n
		tells(t, "of any number that is used", Map(p, 30, 31, 3, 7), nil)
		pages(t, "of any number that is used", p, 31, 3, 30, 7, true)
		tells(t, "of any number that is used", Unmap(p, 30), nil)
		want := begun().words()
		want[allWords-1] = n
		stays(t, "of any number that is used", p, want)
	}
}
