package look_test

import (
	"math"
	"testing"

	"beehive/api"
	"beehive/look"
	"beehive/term"
)

// tuples is a region in which each word is the head of an empty tuple.
func tuples(at int, many int) api.Frag {
	made := api.Frag{At: at, Words: make([]uint64, many)}
	for i := range made.Words {
		made.Words[i] = head(api.HeadTuple, 0)
	}
	return made
}

// places are a dump for each of its regions that has this one there.
func places(r api.Frag) []api.Dump {
	return []api.Dump{
		{Young: r},
		{Old: r},
		{Frags: []api.Frag{r}},
		{Frags: []api.Frag{{At: r.At}, {At: -1 - r.At, Words: make([]uint64, 3)}, r}},
	}
}

func TestAddresses(t *testing.T) {
	for _, at := range []int{0, 1, 2, 10, 1<<50 - 1, 1 << 50, 1<<50 + 1, api.Greatest - 20, api.Greatest - 9} {
		for many := 0; many <= 10; many++ {
			for _, d := range places(tuples(at, many)) {
				for by := -3; by <= many+3; by++ {
					if at+by < 0 || at+by > api.Greatest {
						continue
					}
					if 0 <= by && by < many {
						reads(t, "in the region", d, nil, box(at+by), tuple())
					} else {
						fails(t, "beside the region", d, nil, box(at+by))
					}
				}
			}
		}
	}
}

// A region may reach beyond all addresses of words, or begin there.
func TestFarRegions(t *testing.T) {
	for _, at := range []int{api.Greatest - 1, api.Greatest, api.Greatest + 1, 1 << 61, 1<<61 - 2, 1 << 62, math.MaxInt - 4, math.MaxInt - 1, math.MaxInt} {
		for _, d := range places(tuples(at, 5)) {
			for _, address := range []int{0, 1, 2, 3, api.Greatest - 2, api.Greatest - 1, api.Greatest} {
				if at <= address && address-at < 5 {
					reads(t, "a far region", d, nil, box(address), tuple())
				} else {
					fails(t, "a far region", d, nil, box(address))
				}
			}
			for _, w := range []uint64{math.MaxUint64 - 3, math.MaxUint64 - 2, 1<<63 | api.TagBox, 1<<63 | 1<<3 | api.TagBox} {
				fails(t, "no plain word", d, nil, w)
			}
		}
	}
	d := api.Dump{Old: api.Frag{At: api.Greatest, Words: []uint64{head(api.HeadTuple, 2), small(1), small(2)}}}
	reads(t, "the last address of all", d, nil, box(api.Greatest), tuple(term.Int(1), term.Int(2)))
}

func TestNegativeRegions(t *testing.T) {
	for _, at := range []int{-1, -2, -5, math.MinInt, math.MinInt + 1, -1 << 60} {
		for _, d := range places(tuples(at, 9)) {
			d.Frags = d.Frags[max(0, len(d.Frags)-1):]
			for address := range 12 {
				fails(t, "a region below 0", d, nil, box(address))
			}
			for _, back := range []int{0, 1, 4} {
				fails(t, "a region below 0", d, nil, box(at+back))
			}
			// What lies in a region below 0 hides nothing of the others.
			d.Frags = append(d.Frags, tuples(1, 2))
			reads(t, "beside a region below 0", d, nil, box(2), tuple())
		}
	}
}

// ints is a region of pairs of an integer and an empty list.
func ints(at int, many int, n int) api.Frag {
	made := api.Frag{At: at}
	for range many {
		made.Words = append(made.Words, small(n), empty)
	}
	return made
}

// Where regions lie over each other, the young one counts, then the old one,
// then the first fragment.
func TestRegionsOverEachOther(t *testing.T) {
	d := api.Dump{
		Young: ints(20, 2, 1),
		Old:   ints(16, 5, 2),
		Frags: []api.Frag{ints(30, 0, 3), ints(12, 4, 4), ints(8, 12, 5), ints(4, 16, 6), ints(-4, 50, 7)},
	}
	for address := 0; address <= 50; address += 2 {
		want := 0
		switch {
		case 20 <= address && address < 24:
			want = 1
		case 16 <= address && address < 26:
			want = 2
		case 12 <= address && address < 20:
			want = 4
		case 8 <= address && address < 32:
			want = 5
		case 4 <= address && address < 36:
			want = 6
		}
		if want == 0 {
			fails(t, "no region", d, nil, cons(address))
		} else {
			reads(t, "several regions", d, nil, cons(address), pair(term.Int(want), term.List()))
		}
	}
}

// An object lies in a single region, even if another one goes on behind it.
func TestOverTheEnd(t *testing.T) {
	objects := map[string][]uint64{
		"a pair":     {small(1), empty},
		"a tuple":    {head(api.HeadTuple, 2), small(1), empty},
		"an integer": {head(api.HeadBig, 2), 0, 1 << 62},
		"a float":    {head(api.HeadFloat, 1), 0},
		"bytes":      bytesObject("hello, bees"),
		"a refc":     {head(api.HeadRefc, 3), 0, 1, 3},
		"a part":     {head(api.HeadSub, 3), box(90), 0, 1},
	}
	slots := []api.Slot{{Stamp: 1, Count: 1, Bytes: "abc"}}
	target := api.Frag{At: 90, Words: bytesObject("h")}
	for what, words := range objects {
		w := box(10)
		if what == "a pair" {
			w = cons(10)
		}
		for cut := 0; cut <= len(words); cut++ {
			first, second := api.Frag{At: 10, Words: words[:cut]}, api.Frag{At: 10 + cut, Words: words[cut:]}
			for _, d := range []api.Dump{
				{Young: first, Old: second, Frags: []api.Frag{target}},
				{Young: second, Old: first, Frags: []api.Frag{target}},
				{Old: first, Frags: []api.Frag{second, target}},
				{Frags: []api.Frag{target, first, second}},
				{Frags: []api.Frag{second, target, first}},
			} {
				if _, ok := look.Read(d, slots, w); ok != (cut == 0 || cut == len(words)) {
					t.Errorf("P12.1: %s of which %d words lie in the region: %v", what, cut, ok)
				}
				d.Size, d.Roots = 99, []uint64{w}
				if why := look.Why(d, slots); (why == "roots") != (cut > 0 && cut < len(words)) {
					t.Errorf("P12.2: %s of which %d words lie in the region: %q", what, cut, why)
				}
			}
		}
	}
}

// What stands behind the words of a slice, within its capacity, is not there.
func TestUnusedCapacity(t *testing.T) {
	objects := [][]uint64{
		{small(1), empty},
		{head(api.HeadTuple, 2), small(1), empty},
		{head(api.HeadBig, 2), 0, 1 << 62},
		{head(api.HeadFloat, 1), 0},
		bytesObject("hello, bees"),
		{head(api.HeadSub, 3), box(1), 0, 1},
	}
	for i, words := range objects {
		w := box(4)
		if i == 0 {
			w = cons(4)
		}
		all := append(bytesObject("h"), words...)
		for cut := 3; cut <= len(all); cut++ {
			d := young(all[:cut]...)
			d.Roots = []uint64{w}
			_, ok := look.Read(d, nil, w)
			if ok != (cut == len(all)) || (look.Why(d, nil) == "") != ok {
				t.Errorf("P12.1: object %d of which %d words are not in use: %v", i, len(all)-cut, ok)
			}
		}
	}
	slots := []api.Slot{{Stamp: 1, Count: 1, Bytes: "a"}, {Stamp: 1, Count: 1, Bytes: "b"}}
	fails(t, "a slot that is not in use", young(head(api.HeadRefc, 3), 1, 1, 1), slots[:1], box(1))
}

// An object may begin in the midst of another one.
func TestWithinAnother(t *testing.T) {
	d := young(head(api.HeadTuple, 3), small(1), empty, small(2), head(api.HeadBytes, 4), 17, head(api.HeadTuple, 1), cons(2), 5)
	one, none := term.Int(1), term.List()
	reads(t, "the outer one", d, nil, box(1), tuple(one, none, term.Int(2)))
	reads(t, "within a tuple", d, nil, cons(2), pair(one, none))
	reads(t, "within a tuple", d, nil, cons(3), pair(none, term.Int(2)))
	reads(t, "within bytes", d, nil, box(7), tuple(pair(one, none)))
	reads(t, "bytes", d, nil, box(5), bin("F\x00\x00\x00\x00\x00\x00\x00\x15\x00\x00\x00\x00\x00\x00\x00\x05"))
	fails(t, "over the head of another", d, nil, cons(4))
	d.Roots = []uint64{box(1), cons(2), cons(3), box(7), box(5)}
	if why := look.Why(d, nil); why != "" {
		t.Errorf("P12.2: objects within others: %q", why)
	}
	// 4 + 2 + 2 + 2 + 5
	if live := look.Live(d); live != 15 {
		t.Errorf("P12.3: objects within others: %d", live)
	}
}

// list is a dump of a list of n times the word, at 1, and each pair behind it.
func list(n int, each uint64) api.Dump {
	var words []uint64
	for i := range n {
		words = append(words, each, cons(3+2*i))
	}
	if n > 0 {
		words[len(words)-1] = empty
	}
	return young(words...)
}

func TestWeights(t *testing.T) {
	for n := 145; n <= 155; n++ {
		d := list(n, small(n))
		var want []api.Term
		for range n {
			want = append(want, term.Int(n))
		}
		if 2*n+1 <= api.MaxWeight {
			reads(t, "a list", d, nil, cons(1), term.List(want...))
		} else {
			fails(t, "a heavy list", d, nil, cons(1))
		}
		// The whole is a tuple that adds its own weight and some words.
		for more := range 8 {
			words := append([]uint64{}, d.Young.Words...)
			words = append(words, head(api.HeadTuple, 1+more), cons(1))
			for range more {
				words = append(words, empty)
			}
			if _, ok := look.Read(young(words...), nil, box(len(words)-1-more)); ok != (2*n+2+more <= api.MaxWeight) {
				t.Errorf("P12.1: a list of %d in a tuple with %d others: %v", n, more, ok)
			}
		}
	}
}

// A leaf weighs what its limbs or its bytes add, however it is held.
func TestWeightsOfLeaves(t *testing.T) {
	slots := []api.Slot{{Stamp: 1, Count: 1, Bytes: xs(400)}, {Stamp: 1, Count: 1, Bytes: xs(63)}}
	refc := func(slot uint64) []uint64 {
		return []uint64{head(api.HeadRefc, 3), slot, 1, uint64(len(slots[slot].Bytes))}
	}
	big := bigObject(api.Num{Mag: []uint32{0, 0, 0, 0, 0, 0, 1}})
	for _, x := range []struct {
		words  []uint64
		weight int
	}{
		{refc(0), 51}, {refc(1), 8}, {bytesObject(xs(64)), 9}, {bytesObject(xs(63)), 8}, {bytesObject(xs(7)), 1},
		{big, 8}, {bigObject(api.Num{Neg: true, Mag: []uint32{1, 1 << 31}}), 3}, {[]uint64{head(api.HeadFloat, 1), 5}, 1},
		{append([]uint64{head(api.HeadSub, 3), box(5), 0, 64}, refc(0)...), 9},
		{append([]uint64{head(api.HeadSub, 3), box(5), 1, 399}, refc(0)...), 50},
		{append([]uint64{head(api.HeadSub, 3), box(5), 399, 1}, refc(0)...), 1},
		{append([]uint64{head(api.HeadSub, 3), box(5), 8, 56}, bytesObject(xs(64))...), 8},
	} {
		// A list of n times the object, behind it.
		for n := 1; n <= 151; n++ {
			words := append([]uint64{}, x.words...)
			at := 1 + len(words)
			for i := range n {
				words = append(words, box(1), cons(at+2+2*i))
			}
			words[len(words)-1] = empty
			d := young(words...)
			d.Roots = []uint64{cons(at)}
			_, ok := look.Read(d, slots, cons(at))
			if ok != (n*(x.weight+1)+1 <= api.MaxWeight) || (look.Why(d, slots) != "roots") != ok {
				t.Errorf("P12.1: a list of %d of weight %d: %v", n, x.weight, ok)
			}
		}
	}
}

// A chain of n objects, each in the next, with an empty list at its end.
func TestDepths(t *testing.T) {
	for n := 1; n <= 1000; n++ {
		var words []uint64
		deep := term.List()
		first := empty
		for range n {
			words = append(words, head(api.HeadTuple, 1), first)
			first = box(len(words) - 1)
			if n < api.MaxWeight {
				deep = tuple(deep)
			}
		}
		if n < api.MaxWeight {
			reads(t, "a chain", young(words...), nil, first, deep)
		} else {
			fails(t, "a long chain", young(words...), nil, first)
		}
	}
	// Each pair is the head of the next one.
	for n := 1; n <= 200; n++ {
		words := []uint64{empty, empty}
		for i := 1; i < n; i++ {
			words = append(words, cons(2*i-1), empty)
		}
		if _, ok := look.Read(young(words...), nil, cons(2*n-1)); ok != (2*n+1 <= api.MaxWeight) {
			t.Errorf("P12.1: a chain of %d pairs: %v", n, ok)
		}
	}
}

// Terms that hold themselves stand for nothing, wherever they are entered.
func TestRings(t *testing.T) {
	for what, words := range map[string][]uint64{
		"a pair in its head":  {cons(1), empty},
		"a pair in its tail":  {empty, cons(1)},
		"a pair in both":      {cons(1), cons(1)},
		"a tuple":             {head(api.HeadTuple, 1), box(1)},
		"a tuple of itselves": {head(api.HeadTuple, 8), box(1), box(1), box(1), box(1), box(1), box(1), box(1), box(1)},
		"a ring of two":       {cons(3), empty, empty, cons(1)},
		"a ring of three":     {empty, cons(3), box(5), empty, head(api.HeadTuple, 2), small(1), cons(1)},
		"both ways":           {cons(3), cons(3), cons(1), cons(1)},
		"a pair of each":      {box(3), box(3), head(api.HeadTuple, 3), cons(1), box(3), cons(1)},
	} {
		d := young(words...)
		for address := range len(words) + 3 {
			for _, w := range []uint64{box(address), cons(address)} {
				m := model{d, nil}
				if want, ok := m.read(w); ok {
					reads(t, what, d, nil, w, want)
				} else {
					fails(t, what, d, nil, w)
				}
			}
		}
		d.Roots = []uint64{empty, cons(1), box(1)}
		if why := look.Why(d, nil); why != "roots" {
			t.Errorf("P12.2: %s: %q", what, why)
		}
		look.Live(d)
		look.Handles(d)
	}
}

// What is shared is read as often as it is held, as long as the whole is not
// too heavy; then its end comes early, however often parts are shared.
func TestShared(t *testing.T) {
	for levels := 1; levels <= 500; levels++ {
		words := []uint64{empty, empty}
		want := pair(term.List(), term.List())
		for i := 1; i < levels; i++ {
			words = append(words, cons(2*i-1), cons(2*i-1))
			if levels <= 7 {
				want = pair(want, want)
			}
		}
		d := young(words...)
		d.Roots = []uint64{cons(2*levels - 1)}
		// The weight is 2 to the power of levels + 1, less 1.
		if levels <= 7 {
			reads(t, "shared pairs", d, nil, d.Roots[0], want)
		} else {
			fails(t, "shared pairs", d, nil, d.Roots[0])
		}
		if why := look.Why(d, nil); (why == "") != (levels <= 7) {
			t.Errorf("P12.2: %d levels of shared pairs: %q", levels, why)
		}
		if live := look.Live(d); live != 2*levels {
			t.Errorf("P12.3: %d levels of shared pairs: %d", levels, live)
		}
	}
}
