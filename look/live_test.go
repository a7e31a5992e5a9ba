package look_test

import (
	"math"
	"slices"
	"testing"

	"beehive/api"
	"beehive/look"
)

// lives holds Live and Handles of a dump that is as it should be for slots.
func lives(t *testing.T, what string, d api.Dump, slots []api.Slot, live int, handles ...int) {
	t.Helper()
	if why := look.Why(d, slots); why == "regions" || why == "roots" {
		t.Fatalf("P12.3: %s: a wrong test: %s", what, why)
	}
	if got := look.Live(d); got != live || got != (model{d, slots}).live() {
		t.Errorf("P12.3: %s: Live: %d, not %d", what, got, live)
	}
	if got := look.Handles(d); !slices.Equal(got, handles) || !slices.Equal(got, (model{d, slots}).handles()) {
		t.Errorf("P12.3: %s: Handles: %v, not %v", what, got, handles)
	}
}

func TestLiveOfNothing(t *testing.T) {
	d, slots := good()
	d.Roots = nil
	lives(t, "no roots", d, slots, 0)
	d.Roots = []uint64{empty, small(100), mk(api.TagAtom, 100), mk(api.TagPid, 6), small(-5), small(api.Least)}
	lives(t, "roots that lead nowhere", d, slots, 0)
	lives(t, "nothing at all", api.Dump{}, nil, 0)
	d.Handles = nil
	lives(t, "no handles", d, slots, 0)
}

func TestLiveOfEach(t *testing.T) {
	d, slots := good()
	for w, want := range map[uint64]struct {
		live    int
		handles []int
	}{
		cons(100): {2 + 4, []int{200}},
		box(102):  {4 + 2 + 4 + 4 + 4, []int{200, 300}},
		box(106):  {4 + 4, []int{300}},
		box(110):  {2, nil},
		box(200):  {4, []int{200}},
		cons(204): {2 + 4, []int{200}},
		box(206):  {3, nil},
		box(209):  {4 + 3, nil},
		box(213):  {3, nil},
		box(300):  {4, []int{300}},
		box(304):  {4, []int{304}},
		box(310):  {3 + 3 + 4 + 3, nil},
	} {
		d.Roots = []uint64{w}
		lives(t, "one root", d, slots, want.live, want.handles...)
		d.Roots = []uint64{w, empty, w, w}
		lives(t, "one root, often", d, slots, want.live, want.handles...)
		// What the dump says of its handles does not count.
		d.Handles = []int{304}
		lives(t, "one root, other handles", d, slots, want.live, want.handles...)
	}
	// All of them, each once, in each order of a few.
	all := []uint64{box(310), box(304), cons(204), box(102), box(206), box(110)}
	for range len(all) {
		all = append(all[1:], all[0])
		d.Roots = all
		lives(t, "all roots", d, slots, 18+2+4+2+3+3+4+3, 200, 300, 304)
	}
}

func TestLiveOfSizes(t *testing.T) {
	for size := 0; size <= api.MaxTuple; size++ {
		d := young(append([]uint64{head(api.HeadTuple, size)}, make([]uint64, size)...)...)
		d.Roots = []uint64{box(1)}
		lives(t, "a tuple", d, nil, 1+size)
	}
	for n := 0; n <= api.HeapBytes; n++ {
		d := young(bytesObject(xs(n))...)
		d.Roots = []uint64{box(1)}
		lives(t, "bytes", d, nil, 2+(n+7)/8)
	}
	for limbs := 3; limbs <= api.MaxLimbs; limbs++ {
		x := api.Num{Mag: make([]uint32, limbs)}
		x.Mag[limbs-1] = 1
		d := young(bigObject(x)...)
		d.Roots = []uint64{box(1)}
		lives(t, "an integer", d, nil, 2+(limbs+1)/2)
	}
}

// A part reaches its bytes, whoever else does.
func TestLiveThroughParts(t *testing.T) {
	slots := []api.Slot{{Stamp: 1, Count: 2, Bytes: xs(90)}}
	d := young(
		head(api.HeadSub, 3), box(9), 0, 5,
		head(api.HeadSub, 3), box(9), 5, 85,
		head(api.HeadRefc, 3), 0, 1, 90,
		head(api.HeadRefc, 3), 0, 1, 90,
		head(api.HeadSub, 3), box(21), 0, 0,
		head(api.HeadBytes, 2), 3, 7,
		head(api.HeadTuple, 3), box(1), box(5), box(17),
	)
	for _, x := range []struct {
		roots   []uint64
		live    int
		handles []int
	}{
		{[]uint64{box(1)}, 8, []int{9}},
		{[]uint64{box(1), box(5)}, 12, []int{9}},
		{[]uint64{box(9), box(1), box(5)}, 12, []int{9}},
		{[]uint64{box(5), box(9)}, 8, []int{9}},
		{[]uint64{box(13)}, 4, []int{13}},
		{[]uint64{box(13), box(9)}, 8, []int{9, 13}},
		{[]uint64{box(17)}, 7, nil},
		{[]uint64{box(21), box(17)}, 7, nil},
		{[]uint64{box(24)}, 4 + 8 + 4 + 7, []int{9}},
		{[]uint64{box(24), box(13), box(17)}, 4 + 8 + 4 + 7 + 4, []int{9, 13}},
	} {
		d.Roots = x.roots
		lives(t, "parts", d, slots, x.live, x.handles...)
	}
}

// The offset and the length of a part lead nowhere, though they look as if they
// did; nor does anything in a refc, in bytes, in an integer or in a float.
func TestLiveOfNumbersLikeAddresses(t *testing.T) {
	slots := make([]api.Slot, 14)
	slots[13] = api.Slot{Stamp: 13, Count: 1, Bytes: xs(13)}
	slots[12] = api.Slot{Stamp: 12, Count: 1, Bytes: xs(12)}
	// 12 is a box of the address 1, 13 a pair there.
	for _, first := range [][]uint64{{head(api.HeadTuple, 1), empty}, {small(1), empty}} {
		for n := uint64(12); n <= 13; n++ {
			for what, words := range map[string][]uint64{
				"a part":       append([]uint64{head(api.HeadSub, 3), box(7), n, n}, bytesObject(xs(26))...),
				"a refc":       {head(api.HeadRefc, 3), n, n, n},
				"bytes":        {head(api.HeadBytes, 3), n, n, n},
				"an integer":   {head(api.HeadBig, 3), 1, n, n},
				"a float":      {head(api.HeadFloat, 1), n},
				"an odd float": {head(api.HeadFloat, 1), n | 1<<63},
			} {
				d := young(append(slices.Clone(first), words...)...)
				d.Roots = []uint64{box(3)}
				live := len(words)
				if got := look.Live(d); got != live || look.Why(d, slots) == "roots" {
					t.Errorf("P12.3: %s with %d: %d words, not %d, %q", what, n, got, live, look.Why(d, slots))
				}
			}
		}
	}
}

// Objects that lie over each other count each, though they have words in
// common.
func TestLiveOfOverlaps(t *testing.T) {
	slots := []api.Slot{{Stamp: 0, Count: 1, Bytes: ""}}
	words := []uint64{head(api.HeadTuple, 4), empty, empty, empty, empty, head(api.HeadBytes, 5), 32, head(api.HeadRefc, 3), 0, 0, 0}
	d := young(words...)
	d.Roots = []uint64{cons(2), cons(3), cons(4), cons(2)}
	lives(t, "pairs over each other", d, slots, 6)
	d.Roots = []uint64{box(1), cons(2), cons(4)}
	lives(t, "pairs within a tuple", d, slots, 5+2+2)
	d.Roots = []uint64{box(6), box(8)}
	lives(t, "a refc within bytes", d, slots, 6+4, 8)
}

// A HeadRefc may lie anywhere; its address alone says its place in the order.
func TestHandlesAscend(t *testing.T) {
	slots := []api.Slot{{Stamp: 4, Count: 9, Bytes: "ab"}}
	var refcs []uint64
	for range 5 {
		refcs = append(refcs, head(api.HeadRefc, 3), 0, 4, 2)
	}
	d := api.Dump{
		Young: region(500, refcs...), Old: region(0, refcs...), Size: 20,
		Frags: []api.Frag{region(1<<50, refcs...), region(20, refcs...), region(1000, refcs...)},
	}
	var all []int
	for _, at := range []int{0, 20, 500, 1000, 1 << 50} {
		for i := range 5 {
			all = append(all, at+4*i)
		}
	}
	for step := 1; step < len(all); step++ {
		d.Roots, d.Handles = nil, nil
		var want []int
		for i := 0; i < len(all); i += step {
			want = append(want, all[i])
			d.Roots = append([]uint64{box(all[i])}, d.Roots...)
			if i%3 == 0 {
				d.Roots = append(d.Roots, box(all[i]))
			}
		}
		lives(t, "handles", d, slots, 4*len(want), want...)
		d.Handles = want
		if why := look.Why(d, slots); why != "" {
			t.Errorf("P12.2: %d handles: %q", len(want), why)
		}
	}
}

// Of a dump that is not right, both end.
func TestLiveEnds(t *testing.T) {
	for _, changes := range [][]change{breakRegions(), breakRoots()} {
		for _, one := range changes {
			d, slots := good()
			one.do(&d, slots)
			if live := look.Live(d); live < 0 || live > 100 {
				t.Errorf("P12.3: %s: %d", one.what, live)
			}
			if handles := look.Handles(d); !slices.IsSorted(handles) || len(handles) > 10 {
				t.Errorf("P12.3: %s: %v", one.what, handles)
			}
		}
	}
	for what, words := range map[string][]uint64{
		"a pair of itself":    {cons(1), cons(1)},
		"a tuple of itself":   {head(api.HeadTuple, 1), box(1)},
		"a part of itself":    {head(api.HeadSub, 3), box(1), 0, 0},
		"parts of each other": {head(api.HeadSub, 3), box(5), 0, 0, head(api.HeadSub, 3), box(1), 0, 0},
		"under both tags":     {head(api.HeadTuple, 2), cons(2), box(2), cons(1), box(1)},
		"a head as a pair":    {head(api.HeadTuple, 1), cons(1)},
		"a long tuple":        append([]uint64{head(api.HeadTuple, 9)}, slices.Repeat([]uint64{box(1)}, 9)...),
		"a great tuple":       {head(api.HeadTuple, 1<<20), box(1)},
		"no words of a part":  {head(api.HeadSub, 0), head(api.HeadRefc, 0), head(api.HeadBig, 0)},
		"numbers far out":     {head(api.HeadRefc, 3), math.MaxUint64, math.MaxUint64, math.MaxUint64},
		"a part far out":      {head(api.HeadSub, 3), math.MaxUint64 - 3, math.MaxUint64, math.MaxUint64},
		"bytes far out":       {head(api.HeadBytes, 1), math.MaxUint64},
		"a sign far out":      {head(api.HeadBig, 2), math.MaxUint64, math.MaxUint64},
	} {
		d := young(words...)
		for address := range len(words) + 2 {
			d.Roots = append(d.Roots, box(address), cons(address))
		}
		if live := look.Live(d); live < 0 || live > 200 {
			t.Errorf("P12.3: %s: %d", what, live)
		}
		if handles := look.Handles(d); !slices.IsSorted(handles) {
			t.Errorf("P12.3: %s: %v", what, handles)
		}
		if why := look.Why(d, nil); why != "roots" {
			t.Errorf("P12.2: %s: %q", what, why)
		}
	}
}
