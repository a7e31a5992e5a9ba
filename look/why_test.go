package look_test

import (
	"math"
	"slices"
	"testing"

	"beehive/api"
	"beehive/look"
)

// good is a dump that keeps all conditions, with words that nothing reaches.
func good() (api.Dump, []api.Slot) {
	d := api.Dump{
		Young: api.Frag{At: 100, Words: []uint64{
			small(1), box(200),
			head(api.HeadTuple, 3), cons(100), box(106), mk(api.TagAtom, 9),
			head(api.HeadSub, 3), box(300), 1, 2,
			head(api.HeadFloat, 1), math.Float64bits(2.5),
			box(0), cons(1 << 40), mk(api.TagForward, 7), mk(api.TagAtom, 999),
		}},
		Old: api.Frag{At: 200, Words: []uint64{
			head(api.HeadRefc, 3), 0, 5, 100,
			empty, box(200),
			head(api.HeadBytes, 2), 2, 0x6968,
			head(api.HeadSub, 3), box(206), 0, 2,
			head(api.HeadBig, 2), 1, 1<<60 + 1,
		}},
		Size: 20, Mark: 6,
		Frags: []api.Frag{
			{At: 300, Words: []uint64{head(api.HeadRefc, 3), 2, 7, 3, head(api.HeadRefc, 3), 0, 5, 100}},
			{At: 310, Words: []uint64{head(api.HeadTuple, 2), box(213), box(209)}},
		},
		Roots:   []uint64{box(102), cons(204), box(310), small(5), empty, box(110)},
		Handles: []int{300, 200, 304},
	}
	return d, []api.Slot{{Stamp: 5, Count: 2, Bytes: xs(100)}, {Stamp: 3}, {Stamp: 7, Count: 1, Bytes: "abc"}}
}

// change is done to a good dump.
type change struct {
	what string
	do   func(d *api.Dump, slots []api.Slot)
}

// whyOf is Why of a good dump behind some changes, held against the model.
func whyOf(t *testing.T, changes ...change) string {
	t.Helper()
	d, slots := good()
	what := ""
	for _, one := range changes {
		one.do(&d, slots)
		what += one.what + " "
	}
	why := look.Why(d, slots)
	if want := (model{d, slots}).why(); why != want {
		t.Errorf("P12.2: %s: %q, not %q as the model", what, why, want)
	}
	return why
}

func region(at int, words ...uint64) api.Frag { return api.Frag{At: at, Words: words} }

// more puts a fragment to those that are there.
func more(what string, r api.Frag) change {
	return change{what, func(d *api.Dump, s []api.Slot) { d.Frags = append(d.Frags, r) }}
}

// older puts words behind those of the old region.
func older(what string, words ...uint64) change {
	return change{what, func(d *api.Dump, s []api.Slot) { d.Old.Words = append(d.Old.Words, words...) }}
}

// root puts a word to the roots.
func root(what string, w uint64) change {
	return change{what, func(d *api.Dump, s []api.Slot) { d.Roots = append(d.Roots, w) }}
}

// handle puts an address to the handles.
func handle(what string, address int) change {
	return change{what, func(d *api.Dump, s []api.Slot) { d.Handles = append(d.Handles, address) }}
}

func breakRegions() []change {
	made := []change{
		{"the young one below 0", func(d *api.Dump, s []api.Slot) { d.Young.At = -1 }},
		{"the young one far below 0", func(d *api.Dump, s []api.Slot) { d.Young.At = math.MinInt }},
		{"the young one too far", func(d *api.Dump, s []api.Slot) { d.Young.At = 1<<50 + 1 }},
		{"the old one below 0", func(d *api.Dump, s []api.Slot) { d.Old.At = -100 }},
		{"the old one too far", func(d *api.Dump, s []api.Slot) { d.Old.At = math.MaxInt }},
		{"a fragment below 0", func(d *api.Dump, s []api.Slot) { d.Frags[1].At = -1 }},
		{"a fragment too far", func(d *api.Dump, s []api.Slot) { d.Frags[1].At = 1<<50 + 1 }},
		{"the old one in the young one", func(d *api.Dump, s []api.Slot) { d.Old.At = 115 }},
		{"the old one ahead of the young one, one too far", func(d *api.Dump, s []api.Slot) { d.Old.At = 100 - len(d.Old.Words) + 1 }},
		{"the young one around the old one", func(d *api.Dump, s []api.Slot) { d.Old = region(105, 0) }},
		{"the old one around the young one", func(d *api.Dump, s []api.Slot) { d.Young = region(205, 0); d.Mark = 0 }},
		{"the same place", func(d *api.Dump, s []api.Slot) { d.Old.At = d.Young.At }},
		{"a fragment in the young one", func(d *api.Dump, s []api.Slot) { d.Frags[1].At = 99 }},
		{"a fragment in the old one", func(d *api.Dump, s []api.Slot) { d.Frags[1].At = 215 }},
		{"a fragment in another one", func(d *api.Dump, s []api.Slot) { d.Frags[1].At = 307 }},
		{"a fragment twice", func(d *api.Dump, s []api.Slot) { d.Frags = append(d.Frags, d.Frags[0]) }},
		{"too small a size", func(d *api.Dump, s []api.Slot) { d.Size = len(d.Young.Words) - 1 }},
		{"a size of 0", func(d *api.Dump, s []api.Slot) { d.Size = 0 }},
		{"a size below 0", func(d *api.Dump, s []api.Slot) { d.Size = math.MinInt }},
		{"too great a mark", func(d *api.Dump, s []api.Slot) { d.Mark = len(d.Young.Words) + 1 }},
		{"a mark of the size", func(d *api.Dump, s []api.Slot) { d.Mark = d.Size }},
		{"the greatest mark", func(d *api.Dump, s []api.Slot) { d.Mark = math.MaxInt }},
		{"a mark below 0", func(d *api.Dump, s []api.Slot) { d.Mark = -1 }},
		{"the least mark", func(d *api.Dump, s []api.Slot) { d.Mark = math.MinInt }},
		{"no young words, but a mark", func(d *api.Dump, s []api.Slot) { d.Young.Words, d.Mark = nil, 1 }},
		{"no young words, a size below 0", func(d *api.Dump, s []api.Slot) { d.Young.Words, d.Mark, d.Size = nil, 0, -1 }},
		more("one more below 0", region(-1, 0)),
		more("one more too far", region(1<<50+1, 0)),
		more("one more at the greatest int", region(math.MaxInt, 0, 0, 0)),
		more("one more at the least int", region(math.MinInt, 0)),
	}
	for _, address := range []int{100, 115, 200, 215, 300, 307, 310, 312} {
		made = append(made, more("one more over a word", region(address, 0)))
		made = append(made, more("one more up to a word", region(address-3, 0, 0, 0, 0)))
	}
	return made
}

func breakRoots() []change {
	made := []change{
		{"a free slot", func(d *api.Dump, s []api.Slot) { s[2] = api.Slot{Stamp: 7} }},
		{"a slot with the count 0", func(d *api.Dump, s []api.Slot) { s[0].Count = 0 }},
		{"another stamp", func(d *api.Dump, s []api.Slot) { s[0].Stamp++ }},
		{"another length", func(d *api.Dump, s []api.Slot) { s[2].Bytes = "ab" }},
		{"a root that is none", func(d *api.Dump, s []api.Slot) { d.Roots[3] = head(api.HeadTuple, 0) }},
		{"the first root is none", func(d *api.Dump, s []api.Slot) { d.Roots[0] = mk(api.TagForward, 102) }},
		{"a word of a tuple is none", func(d *api.Dump, s []api.Slot) { d.Young.Words[5] = mk(api.TagAtom, 256) }},
		{"a NaN that is none", func(d *api.Dump, s []api.Slot) { d.Young.Words[11] = api.NaN + 1 }},
		{"a part is too long", func(d *api.Dump, s []api.Slot) { d.Young.Words[9] = 3 }},
		{"a ring", func(d *api.Dump, s []api.Slot) { d.Young.Words[0] = box(102) }},
		{"unused bytes", func(d *api.Dump, s []api.Slot) { d.Old.Words[8] = 1 << 20 }},
	}
	for _, w := range wrongs() {
		made = append(made, root("a wrong root", w))
	}
	for _, address := range []int{99, 101, 115, 116, 199, 201, 205, 216, 299, 308, 313} {
		made = append(made, root("a box of nothing", box(address)), root("a pair of nothing", cons(address)))
	}
	return made
}

func breakOld() []change {
	var made []change
	for _, w := range []uint64{box(100), cons(100), box(199), cons(199), box(232), box(300), cons(0), box(api.Greatest), 1<<63 | api.TagBox, 1<<63 | 1<<10 | api.TagCons, math.MaxUint64 - 3, math.MaxUint64 - 2} {
		made = append(made,
			older("a word that leads out", w),
			older("one ahead of others", w, 0, 0, 0),
			older("one behind others", 5, empty, box(200), w),
			older("one in a tuple", head(api.HeadTuple, 2), 0, w),
			older("one behind a tuple of a size that is none", head(api.HeadTuple, 1<<20+1), w),
			older("one behind a head that is none", head(6, 3), w),
			older("one behind a head of a size that is none", head(api.HeadBytes, 1<<20+1), w),
			older("one behind a head with a bit too many", 1<<63|head(api.HeadFloat, 1), w),
			older("one behind a forward", mk(api.TagForward, 9), w),
			older("one behind an empty head", head(api.HeadFloat, 0), w),
			older("one behind an empty part", head(api.HeadSub, 0), w),
			older("one right behind a HeadSub", head(api.HeadSub, 3), w, 0, 0),
			older("one right behind a long HeadSub", head(api.HeadSub, 1<<20), w),
			older("one right behind a short HeadSub", head(api.HeadSub, 1), w),
			older("one in a part of a part", head(api.HeadSub, 1), box(206), head(api.HeadSub, 1), w),
			older("one behind a word like a head", head(api.HeadFloat, 1), head(api.HeadFloat, 5), w),
			older("one behind a word like a head in a part", head(api.HeadSub, 3), box(206), 0, head(api.HeadBig, 4), w),
		)
		for kind := range 6 {
			made = append(made, older("one behind an object", head(kind, 2), 0, 0, w))
		}
	}
	return made
}

func breakHandles() []change {
	made := []change{
		{"the first one is missing", func(d *api.Dump, s []api.Slot) { d.Handles = d.Handles[1:] }},
		{"the second one is missing", func(d *api.Dump, s []api.Slot) { d.Handles = []int{300, 304} }},
		{"none", func(d *api.Dump, s []api.Slot) { d.Handles = nil }},
		{"one is reached from elsewhere", func(d *api.Dump, s []api.Slot) {
			d.Frags[0].Words[4+3], d.Handles = 100, d.Handles[:2]
			d.Roots = append(d.Roots, box(304))
		}},
		{"the one that is not reached: no slot", func(d *api.Dump, s []api.Slot) { d.Frags[0].Words[5] = 3 }},
		{"the one that is not reached: a free slot", func(d *api.Dump, s []api.Slot) { d.Frags[0].Words[5] = 1 }},
		{"the one that is not reached: another slot", func(d *api.Dump, s []api.Slot) { d.Frags[0].Words[5] = 2 }},
		{"the one that is not reached: another stamp", func(d *api.Dump, s []api.Slot) { d.Frags[0].Words[6] = 4 }},
		{"the one that is not reached: another length", func(d *api.Dump, s []api.Slot) { d.Frags[0].Words[7] = 99 }},
		{"the one that is not reached: a slot below 0", func(d *api.Dump, s []api.Slot) { d.Frags[0].Words[5] = negative(1) }},
		{"the one that is not reached: another size", func(d *api.Dump, s []api.Slot) { d.Frags[0].Words[4] = head(api.HeadRefc, 2) }},
		{"the one that is not reached: another kind", func(d *api.Dump, s []api.Slot) { d.Frags[0].Words[4] = head(api.HeadTuple, 3) }},
		{"the one that is not reached: over the end", func(d *api.Dump, s []api.Slot) { d.Frags[0].Words = d.Frags[0].Words[:7] }},
		{"the one that is not reached: a free slot of its stamp and length", func(d *api.Dump, s []api.Slot) {
			copy(d.Frags[0].Words[5:], []uint64{1, 3, 0})
		}},
	}
	for _, address := range []int{300, 200, 304} {
		made = append(made, handle("one twice", address))
	}
	for _, address := range []int{0, 100, 102, 106, 110, 204, 206, 209, 213, 201, 299, 301, 308, 310, 316, -1, -300, math.MinInt, math.MaxInt, 1 << 60, 1<<61 + 300, api.Greatest, 300 - 1<<61, 300 | math.MinInt} {
		made = append(made, handle("one that is no HeadRefc", address))
	}
	return made
}

func TestWhyNamesOne(t *testing.T) {
	if why := whyOf(t); why != "" {
		t.Fatalf("P12.2: a good dump: %q", why)
	}
	names := []string{"regions", "roots", "old", "handles"}
	breaks := [][]change{breakRegions(), breakRoots(), breakOld(), breakHandles()}
	for i, changes := range breaks {
		for _, one := range changes {
			if why := whyOf(t, one); why != names[i] {
				t.Errorf("P12.2: %s: %q, not %q", one.what, why, names[i])
			}
		}
	}
}

// Of several conditions that do not hold, the first one is named.
func TestWhyNamesTheFirst(t *testing.T) {
	const zero = uint64(0)
	regions := []change{
		{"the size", func(d *api.Dump, s []api.Slot) { d.Size = 3 }},
		{"the mark", func(d *api.Dump, s []api.Slot) { d.Mark = -7 }},
		more("one more below 0", region(-5, zero)),
		more("one more over a word", region(115, zero)),
		more("one more too far", region(1<<60, zero)),
	}
	roots := []change{
		root("no root", head(api.HeadBig, 2)),
		root("no address", box(1)),
		{"a stamp", func(d *api.Dump, s []api.Slot) { s[2].Stamp = 8 }},
	}
	old := []change{
		older("a word that leads out", box(100)),
		older("a part that leads out", head(api.HeadSub, 3), box(300), 0, 0),
	}
	handles := []change{
		handle("one twice", 300),
		handle("no handle", 310),
		{"none", func(d *api.Dump, s []api.Slot) { d.Handles = nil }},
	}
	none := change{"nothing", func(d *api.Dump, s []api.Slot) {}}
	for i, a := range append(regions, none) {
		for j, b := range append(roots, none) {
			for k, c := range append(old, none) {
				for l, e := range append(handles, none) {
					want := ""
					switch {
					case i < len(regions):
						want = "regions"
					case j < len(roots):
						want = "roots"
					case k < len(old):
						want = "old"
					case l < len(handles):
						want = "handles"
					}
					if why := whyOf(t, a, b, c, e); why != want {
						t.Errorf("P12.2: %s, %s, %s, %s: %q, not %q", a.what, b.what, c.what, e.what, why, want)
					}
				}
			}
		}
	}
}

// At their very edges, the conditions hold.
func TestWhyAtTheEdges(t *testing.T) {
	far := 1 << 50
	for _, one := range []change{
		{"no slack", func(d *api.Dump, s []api.Slot) { d.Size = len(d.Young.Words) }},
		{"much slack", func(d *api.Dump, s []api.Slot) { d.Size = math.MaxInt }},
		{"a mark of 0", func(d *api.Dump, s []api.Slot) { d.Mark = 0 }},
		{"a mark of all", func(d *api.Dump, s []api.Slot) { d.Mark = len(d.Young.Words) }},
		{"all edges", func(d *api.Dump, s []api.Slot) { d.Mark, d.Size = len(d.Young.Words), len(d.Young.Words) }},
		more("one that touches the young one", region(116, box(7))),
		more("one ahead of the young one", region(99, box(7))),
		more("one between two", region(116, make([]uint64, 84)...)),
		more("one that touches a fragment", region(308, 0, 0)),
		more("one ahead of the old one", region(198, 0, 0)),
		more("one at 0", region(0, 0, 0)),
		more("one from 0 to the young one", region(0, make([]uint64, 100)...)),
		more("one at the end", region(far, 0, 0, 0)),
		more("one up to the end and beyond", region(far-1, 0, 0, 0)),
		more("an empty one below 0", region(-1)),
		more("an empty one far below 0", region(math.MinInt)),
		more("an empty one too far", region(math.MaxInt)),
		more("an empty one in the young one", region(105)),
		more("an empty one in the old one", region(200)),
		{"empty ones among the others", func(d *api.Dump, s []api.Slot) {
			d.Frags = []api.Frag{region(301), d.Frags[1], region(310), region(100), d.Frags[0], region(-9)}
		}},
		{"fragments in another order", func(d *api.Dump, s []api.Slot) { slices.Reverse(d.Frags) }},
		root("a root twice", box(102)),
		root("a root in the midst of an object", cons(103)),
		root("a root of the old region", box(206)),
		older("a word that stays", box(200)),
		older("the last word of all", cons(216)),
		older("the first word of all", cons(200)),
		older("words that lead nowhere", mk(api.TagForward, 100), mk(api.TagForward, 0), 1<<63|mk(api.TagAtom, 100), mk(api.TagNil, 100), mk(api.TagPid, 900)),
		older("heads that are none", head(6, 3), head(7, 0), head(api.HeadBytes, 1<<20+1), 1<<63|head(api.HeadFloat, 1)),
		older("a tuple", head(api.HeadTuple, 3), box(200), cons(216), 0),
		older("a tuple over the end", head(api.HeadTuple, 1<<20), box(216)),
		{"no roots, no handles", func(d *api.Dump, s []api.Slot) { d.Roots, d.Handles = nil, nil }},
		{"no roots", func(d *api.Dump, s []api.Slot) { d.Roots = nil }},
		{"the least handles", func(d *api.Dump, s []api.Slot) { d.Handles = []int{200, 300} }},
		{"handles in another order", func(d *api.Dump, s []api.Slot) { d.Handles = []int{304, 200, 300} }},
		{"handles upwards", func(d *api.Dump, s []api.Slot) { slices.Sort(d.Handles) }},
		{"no young words", func(d *api.Dump, s []api.Slot) {
			d.Young, d.Size, d.Mark, d.Roots, d.Handles = api.Frag{At: -3}, 0, 0, d.Roots[1:5], []int{200}
		}},
		{"nothing but the old region", func(d *api.Dump, s []api.Slot) {
			*d = api.Dump{Old: d.Old, Handles: []int{200}, Roots: []uint64{box(200)}}
		}},
		{"a slot that nothing denotes", func(d *api.Dump, s []api.Slot) { s[1] = api.Slot{Stamp: -1, Count: 5, Bytes: xs(500)} }},
	} {
		if why := whyOf(t, one); why != "" {
			t.Errorf("P12.2: %s: %q", one.what, why)
		}
	}
}

// Behind each kind of head, each of the words counts or is skipped.
func TestWhyOfOldHeads(t *testing.T) {
	for kind := range 8 {
		for size := 0; size <= 9; size++ {
			for place := range 12 {
				words := make([]uint64, 12)
				words[place] = box(100)
				skipped := kind <= api.HeadSub && kind != api.HeadTuple && place < size && (kind != api.HeadSub || place > 0)
				want := "old"
				if skipped {
					want = ""
				}
				if why := whyOf(t, older("a head", append([]uint64{head(kind, size)}, words...)...)); why != want {
					t.Errorf("P12.2: word %d behind a head of kind %d and size %d: %q", place, kind, size, why)
				}
				// The region may end ahead of the last of them.
				cut := words[:place+1]
				if why := whyOf(t, older("a head at the end", append([]uint64{head(kind, size)}, cut...)...)); why != want {
					t.Errorf("P12.2: word %d, the last one, behind a head of kind %d and size %d: %q", place, kind, size, why)
				}
			}
		}
		for _, size := range []int{1 << 20, 1<<20 - 1, 1000} {
			want := ""
			if kind == api.HeadTuple || kind > api.HeadSub {
				want = "old"
			}
			if why := whyOf(t, older("a great head", head(kind, size), 0, 0, cons(100), box(1))); why != want {
				t.Errorf("P12.2: a head of kind %d and size %d over the end: %q", kind, size, why)
			}
			if why := whyOf(t, older("a head at the very end", head(kind, size))); why != "" {
				t.Errorf("P12.2: a head of kind %d and size %d at the end: %q", kind, size, why)
			}
		}
	}
}

// The words of the young region and of the fragments may lead anywhere, as
// long as they are not reached.
func TestWhyIgnoresOthers(t *testing.T) {
	d, slots := good()
	for i := 12; i < 16; i++ {
		for _, w := range append(wrongs(), far()...) {
			d.Young.Words[i] = w
			if why := look.Why(d, slots); why != "" {
				t.Errorf("P12.2: an unreached word %x: %q", w, why)
			}
		}
	}
}

// A region without words may be anywhere.
func TestWhyOfEmptyRegions(t *testing.T) {
	for _, d := range []api.Dump{
		{Old: api.Frag{At: -1}},
		{Old: api.Frag{At: math.MaxInt, Words: []uint64{}}},
		{Frags: []api.Frag{{At: -1}, {At: -1}, {}}},
		{Size: 5},
		{Size: math.MaxInt},
		{Young: api.Frag{At: math.MinInt}},
	} {
		if why := look.Why(d, nil); why != "" {
			t.Errorf("P12.2: no words: %q", why)
		}
	}
}
