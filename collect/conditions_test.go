package collect_test

import (
	"math"
	"slices"
	"testing"

	"beehive/api"
	"beehive/look"
)

// good is a dump that keeps all conditions, with words that nothing reaches.
func good() (api.Dump, []api.Slot) {
	d := api.Dump{
		Young: region(100,
			small(1), box(200),
			head(api.HeadTuple, 3), cons(100), box(106), atom(9),
			head(api.HeadSub, 3), box(300), 1, 2,
			head(api.HeadFloat, 1), math.Float64bits(2.5),
			box(0), cons(1<<40), forward(7), atom(999),
		),
		Old: region(200,
			head(api.HeadRefc, 3), 0, 5, 100,
			empty, box(200),
			head(api.HeadBytes, 2), 2, 0x6968,
			head(api.HeadSub, 3), box(206), 0, 2,
			head(api.HeadBig, 2), 1, 1<<60+1,
		),
		Size: 20, Mark: 6,
		Frags: []api.Frag{
			region(300, head(api.HeadRefc, 3), 2, 7, 3, head(api.HeadRefc, 3), 0, 5, 100),
			region(310, head(api.HeadTuple, 2), box(213), box(209)),
		},
		Roots:   []uint64{box(102), cons(204), box(310), small(5), empty, box(110)},
		Handles: []int{300, 200, 304},
	}
	return d, []api.Slot{{Stamp: 5, Count: 2, Bytes: xs(100)}, {Stamp: 3}, {Stamp: 7, Count: 1, Bytes: "abc"}}
}

// change is done to a good dump.
type change struct {
	what string
	do   func(d *api.Dump)
}

// more puts a fragment to those that are there.
func more(what string, r api.Frag) change {
	return change{what, func(d *api.Dump) { d.Frags = append(d.Frags, r) }}
}

// older puts words behind those of the old region.
func older(what string, words ...uint64) change {
	return change{what, func(d *api.Dump) { d.Old.Words = append(d.Old.Words, words...) }}
}

func root(what string, w uint64) change {
	return change{what, func(d *api.Dump) { d.Roots = append(d.Roots, w) }}
}

func breakRegions() []change {
	made := []change{
		{"the young one below 0", func(d *api.Dump) { d.Young.At = -1 }},
		{"the young one far below 0", func(d *api.Dump) { d.Young.At = math.MinInt }},
		{"the young one too far", func(d *api.Dump) { d.Young.At = far + 1 }},
		{"the old one below 0", func(d *api.Dump) { d.Old.At = -100 }},
		{"the old one too far", func(d *api.Dump) { d.Old.At = math.MaxInt }},
		{"a fragment below 0", func(d *api.Dump) { d.Frags[1].At = -1 }},
		{"a fragment too far", func(d *api.Dump) { d.Frags[1].At = far + 1 }},
		{"the old one in the young one", func(d *api.Dump) { d.Old.At = 115 }},
		{"the old one ahead of the young one, one too far", func(d *api.Dump) { d.Old.At = 100 - len(d.Old.Words) + 1 }},
		{"the young one around the old one", func(d *api.Dump) { d.Old = region(105, 0) }},
		{"the same place", func(d *api.Dump) { d.Old.At = d.Young.At }},
		{"a fragment in the young one", func(d *api.Dump) { d.Frags[1].At = 99 }},
		{"a fragment in the old one", func(d *api.Dump) { d.Frags[1].At = 215 }},
		{"a fragment twice", func(d *api.Dump) { d.Frags = append(d.Frags, d.Frags[0]) }},
		{"too small a size", func(d *api.Dump) { d.Size = len(d.Young.Words) - 1 }},
		{"a size below 0", func(d *api.Dump) { d.Size = math.MinInt }},
		{"too great a mark", func(d *api.Dump) { d.Mark = len(d.Young.Words) + 1 }},
		{"the greatest mark", func(d *api.Dump) { d.Mark = math.MaxInt }},
		{"a mark below 0", func(d *api.Dump) { d.Mark = -1 }},
		{"the least mark", func(d *api.Dump) { d.Mark = math.MinInt }},
		{"no young words, but a mark", func(d *api.Dump) { d.Young.Words, d.Roots, d.Mark = nil, nil, 1 }},
		{"no young words, a size below 0", func(d *api.Dump) { d.Young.Words, d.Roots, d.Mark, d.Size = nil, nil, 0, -1 }},
		more("one more at the greatest int", region(math.MaxInt, 0, 0, 0)),
		more("one more at the least int", region(math.MinInt, 0)),
	}
	for _, address := range []int{100, 115, 200, 215, 300, 307, 310, 312} {
		made = append(made, more("one more over a word", region(address, 0)))
		made = append(made, more("one more up to a word", region(address-3, 0, 0, 0, 0)))
	}
	return made
}

// wrongs are words that stand for nothing in a good dump.
func wrongs() []uint64 {
	return []uint64{
		atom(api.MaxAtom + 1), atom(-1), pid(api.MaxPid + 1), mk(api.TagNil, 1),
		head(api.HeadTuple, 0), head(api.HeadFloat, 1), head(api.HeadTuple, 1<<20+1), head(6, 0), head(7, 1),
		forward(0), forward(100), forward(200), box(0), cons(0), box(1 << 40), cons(api.Greatest),
		1<<63 | api.TagBox, 1<<63 | box(102), 1<<63 | cons(100), math.MaxUint64,
	}
}

func breakRoots() []change {
	made := []change{
		{"a root that is none", func(d *api.Dump) { d.Roots[3] = head(api.HeadTuple, 0) }},
		{"the first root is none", func(d *api.Dump) { d.Roots[0] = forward(102) }},
		{"a word of a tuple is none", func(d *api.Dump) { d.Young.Words[5] = atom(256) }},
		{"a long tuple", func(d *api.Dump) { d.Young.Words[2] = head(api.HeadTuple, 9) }},
		{"a NaN that is none", func(d *api.Dump) { d.Young.Words[11] = api.NaN + 1 }},
		{"a float of two words", func(d *api.Dump) { d.Young.Words[10] = head(api.HeadFloat, 2) }},
		{"a part is too long", func(d *api.Dump) { d.Young.Words[9] = 3 }},
		{"a part begins too late", func(d *api.Dump) { d.Young.Words[8] = 2 }},
		{"a part below 0", func(d *api.Dump) { d.Young.Words[8] = math.MaxUint64 }},
		{"a part of a part", func(d *api.Dump) { d.Young.Words[7] = box(209) }},
		{"a part of a tuple", func(d *api.Dump) { d.Young.Words[7] = box(310) }},
		{"a ring", func(d *api.Dump) { d.Young.Words[0] = box(102) }},
		{"unused bytes", func(d *api.Dump) { d.Old.Words[8] = 1 << 20 }},
		{"too many bytes", func(d *api.Dump) { d.Old.Words[7] = 65 }},
		{"a small integer as a big one", func(d *api.Dump) { d.Old.Words[15] = 1 << 59 }},
		{"a sign that is none", func(d *api.Dump) { d.Old.Words[14] = 2 }},
		{"a slot beyond all", func(d *api.Dump) { d.Frags[0].Words[1] = 1<<30 + 1 }},
		{"a stamp beyond all", func(d *api.Dump) { d.Frags[0].Words[2] = 1<<30 + 1 }},
		{"bytes beyond all", func(d *api.Dump) { d.Frags[0].Words[3] = api.MaxBytes + 1 }},
		{"a slot below 0", func(d *api.Dump) { d.Frags[0].Words[1] = math.MaxUint64 }},
		{"a short refc", func(d *api.Dump) { d.Old.Words[0] = head(api.HeadRefc, 2) }},
		{"a long refc", func(d *api.Dump) { d.Old.Words[0] = head(api.HeadRefc, 4) }},
	}
	for _, w := range wrongs() {
		made = append(made, root("a wrong root", w))
	}
	for _, address := range []int{99, 101, 115, 116, 199, 201, 205, 216, 299, 308, 313} {
		made = append(made, root("a box of nothing", box(address)), root("a pair of nothing", cons(address)))
	}
	return made
}

// The same address can't be an object under both tags.
func bothTags() []change {
	var made []change
	for _, address := range []int{102, 106, 110, 200, 206, 209, 213, 300, 304, 310} {
		made = append(made, change{"a box as a pair besides", func(d *api.Dump) { d.Roots = append(d.Roots, box(address), cons(address)) }})
	}
	for _, address := range []int{100, 204} {
		made = append(made, change{"a pair as a box besides", func(d *api.Dump) { d.Roots = append(d.Roots, cons(address), box(address)) }})
	}
	return made
}

func breakOld() []change {
	var made []change
	for _, w := range []uint64{box(100), cons(100), box(199), cons(199), box(300), cons(0), box(api.Greatest), 1<<63 | cons(200), math.MaxUint64 - 3} {
		made = append(made,
			older("a word that leads out", w),
			older("one in a tuple", head(api.HeadTuple, 2), 0, w),
			older("one right behind a HeadSub", head(api.HeadSub, 3), w, 0, 0),
			older("one behind a float", head(api.HeadFloat, 1), 0, w),
		)
	}
	return made
}

func breakHandles() []change {
	var made []change
	made = append(made,
		change{"none", func(d *api.Dump) { d.Handles = nil }},
		change{"one is missing", func(d *api.Dump) { d.Handles = []int{300, 304} }},
		change{"another one is missing", func(d *api.Dump) { d.Handles = []int{200} }},
		change{"another stamp", func(d *api.Dump) { d.Frags[0].Words[6]++ }},
		change{"no slot", func(d *api.Dump) { d.Frags[0].Words[5] = 77 }},
	)
	for _, address := range []int{200, 300, 304, 0, 102, 204, 206, 215, 216, -1, math.MinInt, math.MaxInt} {
		made = append(made, change{"one twice, or one that is none", func(d *api.Dump) { d.Handles = append(d.Handles, address) }})
	}
	return made
}

// changed is a good dump, changed.
func changed(c change) (api.Dump, []api.Slot) {
	d, slots := good()
	c.do(&d)
	return d, slots
}

// A dump is collected unless look names its regions or its roots; a minor one
// asks for the old region too.
func TestConditions(t *testing.T) {
	none := change{"nothing", func(*api.Dump) {}}
	for _, x := range []struct {
		name         string
		changes      []change
		major, minor bool
	}{
		{"", []change{none}, true, true},
		{"regions", breakRegions(), false, false},
		{"roots", append(breakRoots(), bothTags()...), false, false},
		{"old", breakOld(), true, false},
		{"handles", breakHandles(), true, true},
	} {
		for _, one := range x.changes {
			d, slots := changed(one)
			if why := look.Why(d, slots); why != x.name {
				t.Fatalf("%s: a wrong test: %q, not %q", one.what, why, x.name)
			}
			for _, at := range []int{500, 1 << 40, far} {
				if _, ok := major().holds(t, one.what, d, at); ok != x.major {
					t.Errorf("P13.1: %s, which is a matter of %q: %v", one.what, x.name, ok)
				}
				if _, ok := minor().holds(t, one.what, d, at); ok != x.minor {
					t.Errorf("P13.2: %s, which is a matter of %q: %v", one.what, x.name, ok)
				}
			}
		}
	}
}

// No condition makes up for another one.
func TestSeveralConditions(t *testing.T) {
	all := [][]change{breakRegions()[:9], breakRoots()[:9], breakOld()[:9], breakHandles()[:4]}
	for i, some := range all {
		for _, others := range all[i+1:] {
			for _, a := range some {
				for _, b := range others {
					d, _ := changed(a)
					b.do(&d)
					for _, c := range calls() {
						c.holds(t, a.what+", "+b.what, d, 700)
						c.fails(t, a.what+", "+b.what, d, 0)
					}
				}
			}
		}
	}
}

// What is at the edges of the conditions is collected.
func TestEdgesOfConditions(t *testing.T) {
	for _, one := range []change{
		{"no slack", func(d *api.Dump) { d.Size = len(d.Young.Words) }},
		{"much slack", func(d *api.Dump) { d.Size = math.MaxInt }},
		{"a mark of 0", func(d *api.Dump) { d.Mark = 0 }},
		{"a mark of all", func(d *api.Dump) { d.Mark = len(d.Young.Words) }},
		more("one that touches the young one", region(116, box(7))),
		more("one ahead of the young one", region(99, box(7))),
		more("one at 0", region(0, 0, 0)),
		more("one at the end", region(far, 0, 0, 0)),
		more("an empty one below 0", region(-1)),
		more("an empty one far below 0", region(math.MinInt)),
		more("an empty one too far", region(math.MaxInt)),
		more("an empty one in the young one", region(105)),
		{"fragments in another order", func(d *api.Dump) { slices.Reverse(d.Frags) }},
		{"empty ones among the others", func(d *api.Dump) {
			d.Frags = []api.Frag{region(301), d.Frags[1], region(310), region(100), d.Frags[0], region(-9)}
		}},
		older("words that stay", box(200), cons(216), head(api.HeadTuple, 3), box(200), cons(216), 0),
		older("words that lead nowhere", forward(100), head(6, 3), head(api.HeadBytes, 1<<20), box(100)),
		{"no roots", func(d *api.Dump) { d.Roots = nil }},
		{"no handles", func(d *api.Dump) { d.Handles, d.Roots = nil, nil }},
		{"an old word that leads out, but is skipped", func(d *api.Dump) { d.Old.Words[15], d.Roots[2] = box(100), empty }},
	} {
		d, slots := changed(one)
		if why := look.Why(d, slots); why != "" {
			t.Fatalf("%s: a wrong test: %q", one.what, why)
		}
		for _, at := range []int{300, 1 << 40, far} {
			for _, c := range calls() {
				got := c.does(t, one.what, d, at)
				if why := look.Why(got, slots); why != "" || !alike(d, got, slots) {
					t.Errorf("%s: %s: %q of what is returned", c.promise, one.what, why)
				}
			}
		}
	}
}

// The bytes of the slots are not considered.
func TestAnySlot(t *testing.T) {
	for _, slot := range []int{0, 1, 2, 3, 1000, 1<<30 - 1, 1 << 30} {
		for _, stamp := range []int{0, 5, 1 << 30} {
			for _, many := range []int{0, 1, 100, 399, 400} {
				d := young(joined(subObject(5, many/2, many-many/2), refcObject(slot, stamp, many))...)
				for _, roots := range [][]uint64{{box(5)}, {box(1)}, {box(5), box(1)}, {box(1), box(5)}} {
					for _, mark := range []int{0, 4, 5, 8} {
						d.Roots, d.Mark = roots, mark
						for _, c := range calls() {
							if got := c.does(t, "any slot", d, 900); len(got.Handles) != 1 {
								t.Errorf("%s: any slot: %v", c.promise, got)
							}
						}
					}
				}
				for word := 5; word < 8; word++ {
					d := young(slices.Clone(d.Young.Words)...)
					d.Roots, d.Young.Words[word] = []uint64{box(1)}, []uint64{1<<30 + 1, 1<<30 + 1, 401}[word-5]
					for _, c := range calls() {
						c.fails(t, "a slot, a stamp or a length beyond all", d, 900)
					}
				}
			}
		}
	}
}

// listOf are words from the address 1 on: an object, then a list of n times it.
func listOf(object []uint64, n int) api.Dump {
	words := slices.Clone(object)
	first := 1 + len(words)
	for i := range n {
		words = append(words, box(1), cons(first+2+2*i))
	}
	words[len(words)-1] = empty
	return with(young(words...), cons(first))
}

// What is just light enough is collected. A HeadRefc, and a part of one, has
// the weight 1, whatever its bytes are.
func TestWeights(t *testing.T) {
	for _, x := range []struct {
		object []uint64
		weight int
	}{
		{refcObject(3, 4, 400), 1},
		{refcObject(3, 4, 0), 1},
		{joined(subObject(5, 0, 400), refcObject(3, 4, 400)), 1},
		{joined(subObject(5, 8, 64), refcObject(3, 4, 100)), 1},
		{joined(subObject(5, 0, 64), bytesObject(xs(64))), 9},
		{joined(subObject(5, 1, 63), bytesObject(xs(64))), 8},
		{joined(subObject(5, 0, 7), bytesObject(xs(64))), 1},
		{bytesObject(xs(64)), 9},
		{bytesObject(xs(15)), 2},
		{bigObject(api.Num{Mag: []uint32{1, 2, 3, 4, 5, 6, 7, 8}}), 9},
		{bigObject(api.Num{Neg: true, Mag: []uint32{0, 0, 1}}), 4},
		{[]uint64{head(api.HeadFloat, 1), 0}, 1},
		{[]uint64{head(api.HeadTuple, 8), empty, empty, small(1), small(2), pid(1), atom(2), empty, empty}, 9},
	} {
		for n := 1; n <= 151; n++ {
			d := listOf(x.object, n)
			light := n*(x.weight+1)+1 <= api.MaxWeight
			for _, mark := range []int{0, len(d.Young.Words)} {
				d.Mark = mark
				for _, c := range calls() {
					if _, ok := c.holds(t, "weights", d, 1000); ok != light {
						t.Errorf("%s: a list of %d of the weight %d: %v", c.promise, n, x.weight, ok)
					}
				}
			}
		}
	}
}

// It is the whole weight that counts, not how many objects there are.
func TestHeavyThoughSmall(t *testing.T) {
	words := []uint64{empty, empty}
	for levels := 1; levels <= 12; levels++ {
		d := with(young(words...), cons(2*levels-1))
		for _, c := range calls() {
			if _, ok := c.holds(t, "pairs of themselves", d, 77); ok != (levels <= 7) {
				t.Errorf("%s: %d levels of pairs of themselves: %v", c.promise, levels, ok)
			}
		}
		words = append(words, cons(2*levels-1), cons(2*levels-1))
	}
	for what, words := range map[string][]uint64{
		"a pair of itself":  {cons(1), cons(1)},
		"a tuple of itself": {head(api.HeadTuple, 1), box(1)},
		"a part of itself":  {head(api.HeadSub, 3), box(1), 0, 0},
		"a ring of two":     {cons(3), empty, empty, cons(1)},
	} {
		for _, w := range []uint64{cons(1), box(1)} {
			for _, c := range calls() {
				c.fails(t, what, with(young(words...), w), 50)
			}
		}
	}
}
