package collect_test

import (
	"slices"
	"testing"

	"beehive/api"
	"beehive/collect"
	"beehive/look"
)

// Here nothing but the chapter is asked: its example is written out.
func TestExample(t *testing.T) {
	got, ok := collect.Major(api.Dump{}, 1)
	if !ok || !same(got, api.Dump{Young: api.Frag{At: 1}}) {
		t.Errorf("P13.1: Major of an empty dump at 1: %v, %v", got, ok)
	}
}

// collected holds Major of d at some addresses, against what look says of d and
// of what is returned, and returns the last answer.
func collected(t *testing.T, what string, d api.Dump, slots []api.Slot) api.Dump {
	t.Helper()
	var got api.Dump
	for _, at := range []int{1, 2, 1000, far - 1, far} {
		got = major().does(t, what, d, at)
		words := len(got.Young.Words)
		if got.Young.At != at || words != look.Live(d) || words != look.Live(got) || got.Size != words || got.Mark != words {
			t.Errorf("P13.1: %s: at %d: %d words are alive: %v", what, at, look.Live(d), got)
		}
		if got.Old.At != 0 || len(got.Old.Words) != 0 || len(got.Frags) != 0 {
			t.Errorf("P13.1: %s: Old and Frags: %v", what, got)
		}
		if !slices.Equal(got.Handles, look.Handles(got)) || len(got.Handles) != len(look.Handles(d)) {
			t.Errorf("P13.1: %s: Handles: %v", what, got)
		}
		if why := look.Why(got, slots); why != "" || !alike(d, got, slots) {
			t.Errorf("P13.1: %s: %q of %v, which was %v", what, why, got, d)
		}
		again := major().does(t, what, got, 5)
		if why := look.Why(again, slots); why != "" || !alike(d, again, slots) || len(again.Young.Words) != words {
			t.Errorf("P13.1: %s: collected twice: %q of %v", what, why, again)
		}
	}
	return got
}

func TestMajorPlaces(t *testing.T) {
	d, slots := good()
	collected(t, "a good dump", d, slots)
	for _, at := range outside() {
		major().fails(t, "a wrong address", d, at)
		major().fails(t, "a wrong address for nothing", api.Dump{}, at)
	}
	// It may lie over what is left.
	for at := 90; at < 330; at++ {
		got := major().does(t, "an address in use", d, at)
		if why := look.Why(got, slots); why != "" || !alike(d, got, slots) {
			t.Errorf("P13.1: at %d: %q of %v", at, why, got)
		}
	}
}

func TestMajorOfRoots(t *testing.T) {
	plain := []uint64{small(0), small(api.Least), small(api.Greatest), small(100), atom(0), atom(100), atom(255), pid(0), pid(63), empty}
	d, slots := good()
	for _, roots := range [][]uint64{nil, {}, plain, plain[:1], {box(102), box(102)}, {cons(100), empty, cons(100), cons(100)}, append(plain, d.Roots...), append(d.Roots, d.Roots...)} {
		d.Roots = roots
		got := collected(t, "roots", d, slots)
		for i, w := range roots {
			if slices.Contains(plain, w) && got.Roots[i] != w {
				t.Errorf("P13.1: the root %x became %x", w, got.Roots[i])
			}
			if first := slices.Index(roots, w); got.Roots[i] != got.Roots[first] {
				t.Errorf("P13.1: the root %x became %x and %x", w, got.Roots[first], got.Roots[i])
			}
		}
	}
	d.Roots = plain
	if got := collected(t, "plain roots", d, slots); len(got.Young.Words) != 0 || len(got.Handles) != 0 {
		t.Errorf("P13.1: plain roots: %v", got)
	}
}

// each are objects of all kinds, at their least and their greatest, to lie at
// the address 1; the tag under which each is reached, and its own size.
func each() []struct {
	what  string
	tag   int
	own   int
	words []uint64
} {
	type row = struct {
		what  string
		tag   int
		own   int
		words []uint64
	}
	made := []row{
		{"a pair", api.TagCons, 2, []uint64{small(api.Least), empty}},
		{"a pair of pairs", api.TagCons, 2, []uint64{cons(3), cons(5), empty, empty, atom(255), small(-1)}},
		{"a float", api.TagBox, 2, []uint64{head(api.HeadFloat, 1), api.NaN}},
		{"a float like a word", api.TagBox, 2, []uint64{head(api.HeadFloat, 1), cons(1)}},
		{"a float like a forward", api.TagBox, 2, []uint64{head(api.HeadFloat, 1), forward(1)}},
		{"a negative float", api.TagBox, 2, []uint64{head(api.HeadFloat, 1), 1 << 63}},
		{"a refc at its least", api.TagBox, 4, refcObject(0, 0, 0)},
		{"a refc", api.TagBox, 4, refcObject(2, 1<<30, 400)},
		{"a part of nothing", api.TagBox, 4, joined(subObject(5, 0, 0), bytesObject(""))},
		{"a part of bytes", api.TagBox, 4, joined(subObject(5, 12, 52), bytesObject(xs(64)))},
		{"a part of a refc", api.TagBox, 4, joined(subObject(5, 12, 388), refcObject(2, 1<<30, 400))},
		{"bytes like words", api.TagBox, 5, []uint64{head(api.HeadBytes, 4), 24, forward(1), box(1), head(api.HeadTuple, 8)}},
		{"an integer like words", api.TagBox, 6, []uint64{head(api.HeadBig, 5), 1, forward(1), cons(1), box(1), head(api.HeadTuple, 8)}},
	}
	for size := 0; size <= api.MaxTuple; size++ {
		words := []uint64{head(api.HeadTuple, size)}
		for i := range size {
			words = append(words, []uint64{small(i), cons(2 + size)}[i%2])
		}
		made = append(made, row{"a tuple", api.TagBox, 1 + size, append(words, empty, small(size))})
	}
	for n := 0; n <= api.HeapBytes; n++ {
		words := bytesObject(xs(n))
		made = append(made, row{"bytes", api.TagBox, len(words), words})
	}
	for limbs := 2; limbs <= api.MaxLimbs; limbs++ {
		x := api.Num{Neg: limbs%2 == 0, Mag: make([]uint32, limbs)}
		x.Mag[limbs-1] = 1 << 31
		words := bigObject(x)
		made = append(made, row{"an integer", api.TagBox, len(words), words})
	}
	return made
}

func TestMajorOfEach(t *testing.T) {
	slots := []api.Slot{{Stamp: 0, Count: 1}, {}, {Stamp: 1 << 30, Count: 7, Bytes: xs(400)}}
	for _, x := range each() {
		lead := mk(x.tag, 1)
		live := len(x.words)
		if x.what == "a tuple" && x.own < 3 {
			// Nothing leads to the pair behind it.
			live -= 2
		}
		d := with(young(append(x.words, 7, 7, 7)...), lead)
		d.Handles = look.Handles(d)
		for _, where := range []func(api.Dump) api.Dump{
			func(d api.Dump) api.Dump { return d },
			func(d api.Dump) api.Dump { d.Old, d.Young, d.Size = d.Young, api.Frag{}, 0; return d },
			func(d api.Dump) api.Dump {
				d.Frags, d.Young, d.Size = []api.Frag{region(60, 0), d.Young}, api.Frag{}, 0
				return d
			},
		} {
			placed := where(d)
			if got := collected(t, x.what, placed, slots); len(got.Young.Words) != live {
				t.Errorf("P13.1: %s: %d words, not %d", x.what, len(got.Young.Words), live)
			}
			placed.Roots = []uint64{lead, empty, lead}
			collected(t, x.what+", twice", placed, slots)
		}
		// Held by a tuple and by a pair, and with more behind it.
		words := joined(x.words, []uint64{head(api.HeadTuple, 2), lead, lead, lead, empty})
		n := len(x.words)
		d = with(young(words...), box(n+1), cons(n+4), lead)
		d.Handles = look.Handles(d)
		if got := collected(t, x.what+" in others", d, slots); len(got.Young.Words) != live+5 {
			t.Errorf("P13.1: %s in others: %d words", x.what, len(got.Young.Words))
		}
	}
}

// What is shared remains shared.
func TestMajorShares(t *testing.T) {
	// Lists with a tail in common, of 140 pairs, and each pair a root.
	words := []uint64{small(7), empty}
	roots := []uint64{cons(1)}
	for i := 1; i < 140; i++ {
		words = append(words, small(i), cons(2*i-1))
		roots = append(roots, cons(2*i+1))
	}
	tail := len(words)
	for i := range 8 {
		words = append(words, atom(i), cons(tail-1))
		roots = append(roots, cons(len(words)-1))
	}
	d := with(young(words...), roots...)
	if got := collected(t, "a common tail", d, nil); len(got.Young.Words) != len(words) {
		t.Errorf("P13.1: a common tail: %d words of %d", len(got.Young.Words), len(words))
	}
	slices.Reverse(d.Roots)
	collected(t, "a common tail, the other way", d, nil)
	// Pairs of themselves, up to the weight.
	words = []uint64{small(1), empty}
	for i := 1; i < 7; i++ {
		words = append(words, cons(2*i-1), cons(2*i-1))
	}
	d = with(young(words...), cons(13))
	if got := collected(t, "pairs of themselves", d, nil); len(got.Young.Words) != 14 {
		t.Errorf("P13.1: pairs of themselves: %v", got)
	}
	for i := range 7 {
		d.Roots = append(d.Roots, cons(2*i+1))
	}
	if got := collected(t, "pairs of themselves, all", d, nil); len(got.Young.Words) != 14 {
		t.Errorf("P13.1: pairs of themselves, all: %v", got)
	}
	// A tuple of eight times the same one, nested.
	words = []uint64{head(api.HeadTuple, 0)}
	last := box(1)
	for range 2 {
		words = append(words, head(api.HeadTuple, 8), last, last, last, last, last, last, last, last)
		last = box(len(words) - 8)
	}
	if got := collected(t, "tuples of the same", with(young(words...), last), nil); len(got.Young.Words) != 19 {
		t.Errorf("P13.1: tuples of the same: %v", got)
	}
}

// A part takes its bytes with it, whether they are reached besides or not.
func TestMajorOfParts(t *testing.T) {
	slots := []api.Slot{{Stamp: 1, Count: 2, Bytes: xs(90)}}
	d := young(joined(
		subObject(9, 0, 5), subObject(9, 5, 85), refcObject(0, 1, 90), refcObject(0, 1, 90),
		subObject(21, 0, 0), []uint64{head(api.HeadBytes, 2), 3, 7},
		[]uint64{head(api.HeadTuple, 3), box(1), box(5), box(17)})...)
	for _, x := range []struct {
		roots []uint64
		live  int
	}{
		{[]uint64{box(1)}, 8},
		{[]uint64{box(1), box(5)}, 12},
		{[]uint64{box(9), box(1), box(5)}, 12},
		{[]uint64{box(5), box(9)}, 8},
		{[]uint64{box(13)}, 4},
		{[]uint64{box(13), box(9)}, 8},
		{[]uint64{box(9), box(13)}, 8},
		{[]uint64{box(17)}, 7},
		{[]uint64{box(21), box(17)}, 7},
		{[]uint64{box(24)}, 4 + 8 + 4 + 7},
		{[]uint64{box(24), box(13), box(17)}, 4 + 8 + 4 + 7 + 4},
	} {
		d.Roots = x.roots
		d.Handles = look.Handles(d)
		if got := collected(t, "parts", d, slots); len(got.Young.Words) != x.live {
			t.Errorf("P13.1: parts: %x: %d words", x.roots, len(got.Young.Words))
		}
	}
}

// Objects that lie over each other go apart, whichever is copied first.
func TestMajorOfOverlaps(t *testing.T) {
	slots := []api.Slot{{Stamp: 0, Count: 1, Bytes: ""}}
	words := []uint64{
		head(api.HeadTuple, 4), small(1), small(2), small(3), empty,
		head(api.HeadBytes, 9), 64, head(api.HeadRefc, 3), 0, 0, 0, head(api.HeadSub, 3), box(8), 0, 0,
		head(api.HeadFloat, 1), head(api.HeadTuple, 1), cons(2), cons(3), cons(18),
		head(api.HeadBig, 3), 0, head(api.HeadFloat, 1), head(api.HeadFloat, 1), 5,
	}
	d := young(words...)
	all := []uint64{box(1), cons(2), cons(3), cons(4), box(6), box(8), box(12), box(16), box(17), cons(18), cons(19), box(21), box(23), box(24)}
	sizes := []int{5, 2, 2, 2, 10, 4, 4, 2, 2, 2, 2, 4, 2, 2}
	d.Roots = all
	d.Handles = look.Handles(d)
	total := 0
	for _, size := range sizes {
		total += size
	}
	for range all {
		d.Roots = append(d.Roots[1:len(d.Roots):len(d.Roots)], d.Roots[0])
		if got := collected(t, "overlaps", d, slots); len(got.Young.Words) != total {
			t.Errorf("P13.1: overlaps: %d words, not %d", len(got.Young.Words), total)
		}
		slices.Reverse(d.Roots)
		collected(t, "overlaps, the other way", d, slots)
		slices.Reverse(d.Roots)
	}
	// Two at a time, either first.
	for _, a := range all {
		for _, b := range all {
			d.Roots = []uint64{a, b}
			d.Handles = look.Handles(d)
			collected(t, "two over each other", d, slots)
		}
	}
}

// The handles stand in the order of where they are now, each once.
func TestMajorHandles(t *testing.T) {
	slots := []api.Slot{{Stamp: 4, Count: 9, Bytes: "ab"}}
	var refcs []uint64
	for range 5 {
		refcs = append(refcs, refcObject(0, 4, 2)...)
	}
	d := api.Dump{
		Young: region(500, refcs...), Old: region(0, refcs...), Size: 20, Mark: 8,
		Frags: []api.Frag{region(far, refcs...), region(20, refcs...)},
	}
	var all []uint64
	for _, at := range []int{500, far, 20, 0} {
		for i := range 5 {
			all = append(all, box(at+4*i))
			d.Handles = append(d.Handles, at+4*i)
		}
	}
	for step := 1; step < len(all); step++ {
		d.Roots = nil
		for i := 0; i < len(all); i += step {
			d.Roots = append(d.Roots, all[i], all[i/2/step*step])
		}
		got := collected(t, "handles", d, slots)
		many := (len(all) + step - 1) / step
		if len(got.Handles) != many || !slices.IsSorted(got.Handles) || len(slices.Compact(got.Handles)) != many {
			t.Errorf("P13.1: handles: %v", got.Handles)
		}
	}
	// What the dump says of its handles counts for nothing.
	want := major().does(t, "handles", d, 3).Handles
	for _, handles := range [][]int{nil, {500}, {1, 1, -4}, slices.Repeat([]int{500}, 9)} {
		d.Handles = handles
		if got := major().does(t, "other handles", d, 3); !slices.Equal(got.Handles, want) {
			t.Errorf("P13.1: handles that are listed: %v", got.Handles)
		}
	}
}
