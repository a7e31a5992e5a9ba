package look_test

import (
	"math/rand"
	"slices"
	"testing"

	"beehive/api"
	"beehive/look"
	"beehive/term"
)

const million = 1 << 20

// A chain of half a million pairs is no term, but has its words and its end.
func TestLongChain(t *testing.T) {
	for _, inHead := range []bool{false, true} {
		words := make([]uint64, million)
		for i := 0; i < million; i += 2 {
			words[i], words[i+1] = empty, cons(3+i)
			if inHead {
				words[i], words[i+1] = words[i+1], words[i]
			}
		}
		words[million-1], words[million-2] = empty, empty
		d := young(words...)
		d.Roots = []uint64{cons(1)}
		fails(t, "a long chain", d, nil, cons(1))
		if why := look.Why(d, nil); why != "roots" {
			t.Errorf("P12.2: a long chain: %q", why)
		}
		if live := look.Live(d); live != million {
			t.Errorf("P12.3: a long chain: %d", live)
		}
		if handles := look.Handles(d); len(handles) != 0 {
			t.Errorf("P12.3: a long chain: %v", handles)
		}
		// Its end is a term.
		none := term.List()
		want := pair(none, pair(none, none))
		if inHead {
			want = pair(pair(none, none), none)
		}
		reads(t, "the end of a long chain", d, nil, cons(million-3), want)
	}
}

// Half a million pairs hold each two of those before them: nearly all of them
// are too heavy.
func TestManyShared(t *testing.T) {
	words := make([]uint64, million)
	r := rand.New(rand.NewSource(1))
	for i := 2; i < million; i++ {
		words[i] = cons(1 + 2*r.Intn(i/2))
	}
	words[0], words[1] = empty, empty
	d := young(words...)
	for at := 1; at < million; at += 2 {
		d.Roots = append(d.Roots, cons(at))
	}
	if live := look.Live(d); live != million {
		t.Errorf("P12.3: many pairs: %d", live)
	}
	if why := look.Why(d, nil); why != "roots" {
		t.Errorf("P12.2: many pairs: %q", why)
	}
}

// A good dump of a million words, each object of it a root, many of them heavy
// and shared.
func TestManyRoots(t *testing.T) {
	var words, roots []uint64
	for len(words) < million-400 {
		first := empty
		for range 149 {
			words = append(words, small(1), first)
			first = cons(len(words) - 1)
			roots = append(roots, first, first)
		}
		words = append(words, head(api.HeadTuple, 1), first)
		roots = append(roots, box(len(words)-1))
	}
	d := young(words...)
	d.Mark, d.Roots = len(words), roots
	if why := look.Why(d, nil); why != "" {
		t.Errorf("P12.2: many roots: %q", why)
	}
	if live := look.Live(d); live != len(words) {
		t.Errorf("P12.3: many roots: %d, not %d", live, len(words))
	}
	want := tuple(term.List(slices.Repeat([]api.Term{term.Int(1)}, 149)...))
	reads(t, "a tuple among many", d, nil, roots[len(roots)-1], want)
	// With a pair in place of an integer, its list and the last one are too heavy.
	d.Young.Words[len(words)-2*149-2] = cons(1)
	if why := look.Why(d, nil); why != "roots" {
		t.Errorf("P12.2: many roots, a list of them too heavy: %q", why)
	}
}

// Very many regions are not searched one by one for each object.
func TestManyRegions(t *testing.T) {
	const many = 1 << 17
	slots := []api.Slot{{Stamp: 1, Count: many, Bytes: "abc"}}
	d := api.Dump{}
	var want []int
	for i := range many {
		// In no order.
		at := 8 * (i * 40503 % many)
		d.Frags = append(d.Frags, region(at, head(api.HeadRefc, 3), 0, 1, 3, box(at), empty), api.Frag{At: at})
		d.Roots = append(d.Roots, cons(at+4))
		d.Handles = append(d.Handles, at)
		want = append(want, 8*i)
	}
	if why := look.Why(d, slots); why != "" {
		t.Errorf("P12.2: many regions: %q", why)
	}
	if live := look.Live(d); live != 6*many {
		t.Errorf("P12.3: many regions: %d", live)
	}
	if handles := look.Handles(d); !slices.Equal(handles, want) {
		t.Errorf("P12.3: many regions: %d handles", len(handles))
	}
	reads(t, "among many regions", d, slots, cons(8*77+4), pair(bin("abc"), term.List()))
	d.Handles[many-1] = d.Handles[0]
	if why := look.Why(d, slots); why != "handles" {
		t.Errorf("P12.2: a handle twice among many: %q", why)
	}
	d.Frags = append(d.Frags, region(8*many-3, 0))
	if why := look.Why(d, slots); why != "regions" {
		t.Errorf("P12.2: two regions at one place among many: %q", why)
	}
	look.Live(d)
	look.Handles(d)
}

// The same word very often is one root.
func TestSameRootOften(t *testing.T) {
	d := list(149, small(1))
	d.Roots = slices.Repeat([]uint64{cons(1)}, million)
	if why := look.Why(d, nil); why != "" || look.Live(d) != 298 {
		t.Errorf("P12.2: one root, often: %q, %d", why, look.Live(d))
	}
}

// Great heads one behind the other: each would reach over all the others.
func TestGreatHeads(t *testing.T) {
	words := make([]uint64, million)
	for kind := range 6 {
		for i := range words {
			words[i] = head(kind, million-1-i)
		}
		d := api.Dump{Old: region(0, words...)}
		for i := range words {
			d.Roots = append(d.Roots, box(i))
		}
		look.Live(d)
		look.Handles(d)
		if why := look.Why(d, nil); why != "roots" {
			t.Errorf("P12.2: great heads of kind %d: %q", kind, why)
		}
		d.Roots = nil
		if why := look.Why(d, nil); why != "" {
			t.Errorf("P12.2: great heads of kind %d: %q", kind, why)
		}
	}
}

// A long row of parts, each a part of the next one, is followed by none.
func TestPartsOfParts(t *testing.T) {
	words := make([]uint64, 0, million)
	for i := 1; len(words) < million-4; i += 4 {
		words = append(words, head(api.HeadSub, 3), box(i+4), 0, 0)
	}
	words = append(words, bytesObject("hi")...)
	d := young(words...)
	for at := 1; at < len(words)-3; at += 4 {
		d.Roots = append(d.Roots, box(at))
	}
	last := box(len(words) - 6)
	reads(t, "the last part", d, nil, last, bin(""))
	fails(t, "the first part", d, nil, box(1))
	if why := look.Why(d, nil); why != "roots" {
		t.Errorf("P12.2: parts of parts: %q", why)
	}
	look.Live(d)
	d.Roots = []uint64{last}
	if why := look.Why(d, nil); why != "" || look.Live(d) != 7 {
		t.Errorf("P12.2: the last part: %q, %d", why, look.Live(d))
	}
}
