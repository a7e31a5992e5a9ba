package collect_test

import (
	"math"
	"slices"
	"testing"

	"beehive/api"
	"beehive/look"
)

// keeps holds Minor of d, and that it is as good as d was.
func keeps(t *testing.T, what string, d api.Dump, slots []api.Slot, at int) api.Dump {
	t.Helper()
	got := minor().does(t, what, d, at)
	before, after := look.Why(d, slots), look.Why(got, slots)
	if before == "" && after != "" || before != "roots" && !alike(d, got, slots) {
		t.Errorf("P13.2: %s: %q of %v, which was %v", what, after, got, d)
	}
	return got
}

// sized holds how many words Minor puts behind those of the old region, and
// into the young one.
func sized(t *testing.T, what string, d api.Dump, slots []api.Slot, promoted int, others int) api.Dump {
	t.Helper()
	got := keeps(t, what, d, slots, 1<<30)
	if len(got.Old.Words) != len(d.Old.Words)+promoted || len(got.Young.Words) != others {
		t.Errorf("P13.2: %s: %d and %d words, not %d and %d: %v became %v", what, len(got.Old.Words)-len(d.Old.Words), len(got.Young.Words), promoted, others, d, got)
	}
	return got
}

func TestMinorOfNothing(t *testing.T) {
	for _, at := range []int{1, 2, far} {
		if got := minor().does(t, "an empty dump", api.Dump{}, at); !same(got, api.Dump{Young: api.Frag{At: at}}) {
			t.Errorf("P13.2: an empty dump at %d: %v", at, got)
		}
	}
	d, slots := good()
	for _, at := range outside() {
		minor().fails(t, "a wrong address", d, at)
		minor().fails(t, "a wrong address for nothing", api.Dump{}, at)
	}
	d.Roots = nil
	got := sized(t, "no roots", d, slots, 0, 0)
	if !slices.Equal(got.Handles, []int{200}) {
		t.Errorf("P13.2: no roots: handles %v", got.Handles)
	}
}

// An object is promoted by where it begins.
func TestMark(t *testing.T) {
	d := with(young(small(1), empty, small(2), empty, head(api.HeadTuple, 2), small(3), small(4), head(api.HeadFloat, 1), 5, head(api.HeadTuple, 0)),
		cons(1), cons(3), box(5), box(8), box(10))
	starts, sizes := []int{1, 3, 5, 8, 10}, []int{2, 2, 3, 2, 1}
	for mark := 0; mark <= 10; mark++ {
		d.Mark = mark
		promoted := 0
		for i, at := range starts {
			if at < 1+mark {
				promoted += sizes[i]
			}
		}
		got := sized(t, "a mark", d, nil, promoted, 10-promoted)
		for i, w := range got.Roots {
			if inOld := lies(got.Old, int(w/8)); inOld != (starts[i] < 1+mark) {
				t.Errorf("P13.2: the object at %d, with the mark %d: %x", starts[i], mark, w)
			}
		}
	}
}

// The mark counts in the young region alone, wherever the other ones lie.
func TestMarkOfOtherRegions(t *testing.T) {
	d := api.Dump{
		Young: region(50, small(1), empty, small(2), empty), Size: 4,
		Old:   region(20, small(3), empty),
		Frags: []api.Frag{region(10, small(4), empty), region(48, small(5), empty), region(54, small(6), empty), region(0, small(7), empty)},
		Roots: []uint64{cons(50), cons(52), cons(20), cons(10), cons(48), cons(54), cons(0)},
	}
	for mark := 0; mark <= 4; mark++ {
		d.Mark = mark
		promoted := min(4, (mark+1)/2*2)
		sized(t, "fragments ahead of the mark", d, nil, promoted, 12-promoted)
	}
	d.Young, d.Size, d.Mark = region(math.MaxInt), 0, 0
	d.Roots = d.Roots[2:]
	sized(t, "no young words, far out", d, nil, 0, 8)
	d.Young.At = math.MinInt
	sized(t, "no young words, below 0", d, nil, 0, 8)
}

// What is reached from an object that is promoted goes with it, wherever it
// lies, and whoever reaches it besides.
func TestPromotedReach(t *testing.T) {
	// The first pair, ahead of the mark, leads to one behind it, that one to a
	// fragment, and that one to the old region.
	d := api.Dump{
		Young: region(100, small(1), cons(104), small(2), empty, small(3), cons(202), cons(104), cons(100), small(9), cons(102)), Size: 20,
		Old:   region(10, small(4), empty),
		Frags: []api.Frag{region(200, small(5), empty, small(6), cons(10), small(7), cons(202))},
	}
	for _, x := range []struct {
		mark             int
		roots            []uint64
		promoted, others int
	}{
		{2, []uint64{cons(100)}, 6, 0},
		{1, []uint64{cons(100)}, 6, 0},
		{0, []uint64{cons(100)}, 0, 6},
		{2, []uint64{cons(104)}, 0, 4},
		{2, []uint64{cons(104), cons(100)}, 6, 0},
		{2, []uint64{cons(100), cons(104)}, 6, 0},
		{2, []uint64{cons(202), cons(104), cons(100)}, 6, 0},
		// Reached from a pair that is not promoted.
		{2, []uint64{cons(106)}, 6, 2},
		{2, []uint64{cons(106), cons(202), cons(200)}, 6, 4},
		{2, []uint64{cons(108), cons(106)}, 6, 6},
		{4, []uint64{cons(108), cons(106)}, 8, 4},
		{4, []uint64{cons(108)}, 2, 2},
		{10, []uint64{cons(108), cons(106)}, 12, 0},
		{10, []uint64{cons(204)}, 0, 4},
		{10, []uint64{cons(204), cons(100)}, 6, 2},
		{10, []uint64{cons(204), cons(200), cons(202)}, 0, 6},
		{10, []uint64{cons(10)}, 0, 0},
		{4, []uint64{cons(10), cons(102)}, 2, 0},
	} {
		d.Mark, d.Roots = x.mark, x.roots
		sized(t, "what promoted ones lead to", d, nil, x.promoted, x.others)
		slices.Reverse(d.Roots)
		sized(t, "what promoted ones lead to, the other way", d, nil, x.promoted, x.others)
	}
}

// A part takes its bytes with it; one that is not promoted leads to bytes that
// are.
func TestMinorOfParts(t *testing.T) {
	slots := []api.Slot{{Stamp: 1, Count: 3, Bytes: xs(90)}}
	d := api.Dump{
		Young: region(100, joined(subObject(104, 1, 2), refcObject(0, 1, 90), subObject(104, 3, 4), subObject(200, 0, 1), subObject(10, 5, 6), bytesObject("hi"), subObject(120, 0, 2))...),
		Size:  99,
		Old:   region(10, joined(refcObject(0, 1, 90), subObject(10, 2, 2))...),
		Frags: []api.Frag{region(200, refcObject(0, 1, 90)...)},
	}
	for _, x := range []struct {
		mark             int
		roots            []uint64
		promoted, others int
		handles          int
	}{
		{0, []uint64{box(100), box(108)}, 0, 12, 2},
		{4, []uint64{box(100), box(108)}, 8, 4, 2},
		{4, []uint64{box(108)}, 0, 8, 2},
		{5, []uint64{box(108)}, 4, 4, 2},
		{9, []uint64{box(108), box(104)}, 8, 0, 2},
		{12, []uint64{box(112)}, 0, 8, 2},
		{13, []uint64{box(112), box(200)}, 8, 0, 2},
		{13, []uint64{box(116), box(14)}, 0, 4, 1},
		{17, []uint64{box(116), box(10)}, 4, 0, 1},
		{20, []uint64{box(123)}, 0, 7, 1},
		{21, []uint64{box(123)}, 3, 4, 1},
		{27, []uint64{box(123), box(123)}, 7, 0, 1},
		{27, nil, 0, 0, 1},
	} {
		d.Mark, d.Roots = x.mark, x.roots
		// One that is reached and the one of the old region.
		d.Handles = append(look.Handles(d), 10)
		slices.Sort(d.Handles)
		d.Handles = slices.Compact(d.Handles)
		if got := sized(t, "parts", d, slots, x.promoted, x.others); len(got.Handles) != x.handles {
			t.Errorf("P13.2: parts: handles %v", got.Handles)
		}
	}
}

// What lies in the old region stays, reached or not.
func TestOldStays(t *testing.T) {
	old := region(500, small(1), empty, head(api.HeadTuple, 1), cons(500), head(api.HeadFloat, 1), box(3), forward(9), atom(999), cons(502), box(502))
	for _, roots := range [][]uint64{nil, {cons(500)}, {box(502)}, {cons(2), box(502)}, {box(504), cons(500)}, {cons(2), cons(4), box(502)}} {
		for mark := 0; mark <= 6; mark++ {
			d := api.Dump{Old: old, Young: region(2, box(502), cons(500), cons(500), empty, 7, 7), Size: 6, Mark: mark, Roots: roots}
			got := keeps(t, "old ones", d, nil, 600)
			if got.Old.At != 500 || !slices.Equal(got.Old.Words[:len(old.Words)], old.Words) {
				t.Errorf("P13.2: the old region: %v", got.Old)
			}
			for i, w := range roots {
				if lies(old, int(w/8)) && got.Roots[i] != w {
					t.Errorf("P13.2: a root in the old region: %x became %x", w, got.Roots[i])
				}
			}
			// A major one behind it removes what is not reached.
			last := major().does(t, "old ones", got, 3)
			if len(last.Young.Words) != look.Live(d) || !alike(d, last, nil) {
				t.Errorf("P13.1: behind a minor one: %v", last)
			}
		}
	}
}

// The numbers of a part, of a refc, of bytes, of an integer and of a float lead
// nowhere, though they look as if they did.
func TestNumbersLikeAddresses(t *testing.T) {
	slots := make([]api.Slot, 14)
	slots[13] = api.Slot{Stamp: 13, Count: 1, Bytes: xs(13)}
	slots[12] = api.Slot{Stamp: 12, Count: 1, Bytes: xs(12)}
	// 12 is a box of the address 1, 13 a pair there.
	for _, first := range [][]uint64{{head(api.HeadTuple, 1), empty}, {small(1), empty}} {
		for n := 12; n <= 13; n++ {
			w := uint64(n)
			for _, words := range [][]uint64{
				joined(subObject(7, n, n), bytesObject(xs(26))),
				refcObject(n, n, n),
				{head(api.HeadBytes, 3), w, w, w >> 3},
				{head(api.HeadBig, 3), 1, w, w},
				{head(api.HeadFloat, 1), w},
			} {
				for mark := 0; mark <= 2+len(words); mark++ {
					d := with(young(append(slices.Clone(first), words...)...), box(3))
					d.Mark, d.Handles = mark, look.Handles(d)
					promoted := 0
					if mark > 2 {
						promoted = len(words)
					}
					sized(t, "numbers like addresses", d, slots, promoted, len(words)-promoted)
					collected(t, "numbers like addresses", d, slots)
				}
			}
		}
	}
}

// Objects over each other go apart, across the address at which promotion ends
// too.
func TestMinorOfOverlaps(t *testing.T) {
	words := []uint64{
		small(1), empty, small(2), empty, empty,
		head(api.HeadTuple, 3), cons(1), cons(2), cons(3),
		head(api.HeadFloat, 1), head(api.HeadTuple, 1), cons(4), cons(7),
		head(api.HeadBig, 3), 0, head(api.HeadFloat, 1), 5,
	}
	d := young(words...)
	all := []uint64{cons(1), cons(2), cons(3), cons(4), box(6), cons(7), cons(8), box(10), box(11), cons(12), box(14), box(16)}
	for mark := 0; mark <= len(words); mark++ {
		d.Mark, d.Roots = mark, all
		keeps(t, "overlaps", d, nil, 900)
		d.Roots = slices.Clone(all)
		slices.Reverse(d.Roots)
		keeps(t, "overlaps, the other way", d, nil, 900)
		for _, a := range all {
			for _, b := range all {
				d.Roots = []uint64{a, b}
				keeps(t, "two over each other", d, nil, 900)
			}
		}
	}
}

// An old region without words may begin anywhere from 0 to 2^50.
func TestEmptyOld(t *testing.T) {
	d := with(young(small(1), empty, small(2), empty), cons(1), cons(3))
	for mark := 0; mark <= 4; mark++ {
		d.Mark = mark
		promoted := (mark + 1) / 2 * 2
		for _, place := range []int{0, 1, 2, 3, 100, 1 << 40, far - 4, far - 2, far - 1, far} {
			d.Old = region(place)
			got, ok := minor().holds(t, "no old words", d, far)
			if ok != (place+promoted <= far) || ok && (got.Old.At != place || len(got.Old.Words) != promoted || !alike(d, got, nil)) {
				t.Errorf("P13.2: no old words at %d, mark %d: %v, %v", place, mark, got, ok)
			}
		}
		for _, place := range []int{-1, -2, math.MinInt, far + 1, 1 << 60, math.MaxInt} {
			d.Old = region(place)
			for _, at := range []int{1, 100, far} {
				minor().fails(t, "no old words, at no address", d, at)
				minor().fails(t, "no words at all, at no address", api.Dump{Old: d.Old}, at)
				major().does(t, "no old words, at no address", d, at)
			}
		}
	}
}

// The old region, with what is promoted, ends at the address or ahead of it.
func TestRoomAheadOfYoung(t *testing.T) {
	d, slots := good()
	for mark := 0; mark <= len(d.Young.Words); mark++ {
		d.Mark = mark
		end := 216 + model{d}.size(model{d}.promoted())
		for at := 1; at < 400; at++ {
			got, ok := minor().holds(t, "room", d, at)
			if ok != (at >= end) {
				t.Errorf("P13.2: the old region ends ahead of %d, at %d: %v", end, at, ok)
			}
			if ok && (look.Why(got, slots) != "" || !alike(d, got, slots)) {
				t.Errorf("P13.2: at %d: %v", at, got)
			}
		}
	}
	// Nothing is promoted: its own words count.
	d.Roots, d.Mark = d.Roots[1:2], 0
	minor().fails(t, "one too few", d, 215)
	keeps(t, "just room", d, slots, 216)
	minor().fails(t, "inside", d, 203)
	minor().fails(t, "at its beginning", d, 200)
	minor().fails(t, "ahead of it", d, 199)
	minor().fails(t, "far ahead of it", d, 1)
	// A region at the end of all places leaves none.
	last := api.Dump{Old: region(far-1, empty), Roots: []uint64{empty}}
	keeps(t, "up to the last address", last, nil, far)
	last.Old.At = far
	minor().fails(t, "over the last address", last, far)
	last.Old = region(far-3, small(1), empty)
	last.Young, last.Size, last.Mark, last.Roots = region(1, small(2), empty), 2, 2, []uint64{cons(far - 3), cons(1)}
	minor().fails(t, "promoted over the last address", last, far)
	last.Mark = 0
	keeps(t, "not promoted", last, nil, far)
	last.Old.At, last.Mark, last.Roots[0] = far-4, 2, cons(far-4)
	keeps(t, "promoted up to the last address", last, nil, far)
}

// Handles are those that are reached and, reached or not, listed ones in the
// old region.
func TestMinorHandles(t *testing.T) {
	refc := refcObject(0, 1, 1)
	slots := []api.Slot{{Stamp: 1, Count: 9, Bytes: "x"}}
	d := api.Dump{
		Young: region(100, joined(refc, refc, refc)...), Size: 12, Mark: 4,
		Old:   region(200, joined(refc, refc, refc)...),
		Frags: []api.Frag{region(0, joined(refc, refc)...)},
	}
	for _, x := range []struct {
		listed []int
		roots  []uint64
		want   []int
	}{
		{nil, nil, nil},
		{[]int{200}, nil, []int{200}},
		{[]int{208, 204, 200}, nil, []int{200, 204, 208}},
		{[]int{208, 208}, nil, []int{208}},
		{nil, []uint64{box(204)}, []int{204}},
		{[]int{204}, []uint64{box(204), box(204)}, []int{204}},
		{[]int{200}, []uint64{box(208), box(204)}, []int{200, 204, 208}},
		{[]int{100, 104, 0}, nil, nil},
		{[]int{100, 104, 0, 199, 212, -1, math.MaxInt, math.MinInt}, nil, nil},
		{[]int{100}, []uint64{box(100)}, []int{212}},
		{nil, []uint64{box(100)}, []int{212}},
		{[]int{100}, []uint64{box(104)}, []int{300}},
		{[]int{0, 100, 200}, []uint64{box(0), box(100), box(208)}, []int{200, 208, 212, 300}},
		{[]int{212, 300}, []uint64{box(104), box(0)}, []int{300, 304}},
		{[]int{205, 211}, nil, []int{205, 211}},
	} {
		d.Handles, d.Roots = x.listed, x.roots
		got := keeps(t, "handles", d, slots, 300)
		if !slices.Equal(got.Handles, x.want) {
			t.Errorf("P13.2: handles %v, roots %x: %v, not %v", x.listed, x.roots, got.Handles, x.want)
		}
	}
}

// Of each kind of object, at each place of the mark.
func TestMinorOfEach(t *testing.T) {
	slots := []api.Slot{{Stamp: 0, Count: 1}, {}, {Stamp: 1 << 30, Count: 7, Bytes: xs(400)}}
	for _, x := range each() {
		lead := mk(x.tag, 1)
		d := with(young(x.words...), lead)
		live := look.Live(d)
		d.Handles = look.Handles(d)
		for mark := 0; mark <= len(x.words); mark++ {
			d.Mark = mark
			promoted := 0
			if mark > 0 {
				promoted = live
			}
			got := sized(t, x.what, d, slots, promoted, live-promoted)
			again := sized(t, x.what+", again", got, slots, live-promoted, 0)
			if len(again.Old.Words) != live {
				t.Errorf("P13.2: %s, twice: %v", x.what, again)
			}
		}
		// One that lies in a fragment is not promoted for itself.
		d = api.Dump{Frags: []api.Frag{d.Young}, Roots: d.Roots, Handles: d.Handles}
		sized(t, x.what+" in a fragment", d, slots, 0, live)
		d.Young, d.Size, d.Mark = region(900, lead, lead), 2, 2
		d.Roots = []uint64{lead, cons(900)}
		sized(t, x.what+" in a fragment, led to", d, slots, live+2, 0)
	}
}
