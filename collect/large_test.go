package collect_test

import (
	"math/rand"
	"slices"
	"testing"

	"beehive/api"
	"beehive/collect"
	"beehive/look"
)

const million = 1 << 20

// large holds the numbers of words that both calls leave of a large dump, and
// that it stands for the same, as far as a few of its roots tell.
func large(t *testing.T, what string, d api.Dump, slots []api.Slot, promoted int, others int) {
	t.Helper()
	some := d
	some.Roots = nil
	for i := 0; i < len(d.Roots); i += 1 + len(d.Roots)/64 {
		some.Roots = append(some.Roots, d.Roots[i])
	}
	for _, c := range calls() {
		got, ok := c.do(d, far)
		young, old := look.Live(d), 0
		if c.minor {
			young, old = others, len(d.Old.Words)+promoted
		}
		if !ok || len(got.Young.Words) != young || len(got.Old.Words) != old || got.Size != young || got.Mark != young {
			t.Fatalf("%s: %s: %v, %d and %d words, not %d and %d", c.promise, what, ok, len(got.Young.Words), len(got.Old.Words), young, old)
		}
		if why := look.Why(got, slots); why != "" {
			t.Errorf("%s: %s: %q", c.promise, what, why)
		}
		kept := got
		kept.Roots = nil
		for i := 0; i < len(d.Roots); i += 1 + len(d.Roots)/64 {
			kept.Roots = append(kept.Roots, got.Roots[i])
		}
		if !alike(some, kept, slots) {
			t.Errorf("%s: %s: another term", c.promise, what)
		}
	}
}

// ends holds that neither call collects a large dump.
func ends(t *testing.T, what string, d api.Dump) {
	t.Helper()
	for _, c := range calls() {
		if got, ok := c.do(d, far); ok || !same(got, api.Dump{}) {
			t.Errorf("%s: %s: %v", c.promise, what, ok)
		}
	}
}

// A million words of lists, each pair of them a root.
func TestManyRoots(t *testing.T) {
	var words, roots []uint64
	for len(words) < million-400 {
		first := empty
		for i := range 149 {
			words = append(words, small(i), first)
			first = cons(len(words) - 1)
			roots = append(roots, first, first)
		}
		words = append(words, head(api.HeadTuple, 1), first)
		roots = append(roots, box(len(words)-1))
	}
	d := with(young(words...), roots...)
	large(t, "many roots", d, nil, 0, len(words))
	d.Mark = len(words)
	large(t, "many roots, all promoted", d, nil, len(words), 0)
	d.Young, d.Size, d.Mark, d.Old = api.Frag{}, 0, 0, d.Young
	large(t, "many roots, all old", d, nil, 0, 0)
}

// Little is reached of many words.
func TestFewReached(t *testing.T) {
	words := make([]uint64, million)
	for i := range words {
		words[i] = cons(1 + i/2)
	}
	copy(words[million/2:], []uint64{small(1), empty, small(2), empty})
	d := with(young(words...), cons(1+million/2), cons(3+million/2))
	d.Mark = 2 + million/2
	large(t, "few of many", d, nil, 2, 2)
	for range 20 {
		collect.Major(d, 5)
	}
}

// Chains of half a million pairs are no terms; both calls say so in time.
func TestLongChains(t *testing.T) {
	words := make([]uint64, million)
	for i := 0; i < million; i += 2 {
		words[i], words[i+1] = empty, cons(3+i)
	}
	words[million-1] = empty
	ends(t, "a long chain", with(young(words...), cons(1)))
	// Its last pairs are a term each.
	var roots []uint64
	for i := 1; i < 150; i++ {
		roots = append(roots, cons(million+1-2*i))
	}
	d := with(young(words...), roots...)
	d.Mark = million
	large(t, "the end of a long chain", d, nil, 298, 0)
	r := rand.New(rand.NewSource(1))
	for i := 2; i < million; i++ {
		words[i] = cons(1 + 2*r.Intn(i/2))
	}
	words[0], words[1] = empty, empty
	roots = nil
	for at := 1; at < million; at += 2 {
		roots = append(roots, cons(at))
	}
	ends(t, "pairs of pairs", with(young(words...), roots...))
}

// Very many regions are not searched one by one.
func TestManyRegions(t *testing.T) {
	const many = 1 << 17
	slots := []api.Slot{{Stamp: 1, Count: many, Bytes: "abc"}}
	d := api.Dump{Old: region(8*many, empty, empty), Young: region(8*many+2, cons(4), empty), Size: 2, Mark: 1}
	for i := range many {
		at := 8 * (i * 40503 % many)
		d.Frags = append(d.Frags, region(at, head(api.HeadRefc, 3), 0, 1, 3, box(at), empty), api.Frag{At: at})
		d.Roots = append(d.Roots, cons(at+4))
		d.Handles = append(d.Handles, at)
	}
	d.Roots = append(d.Roots, cons(8*many+2))
	large(t, "many regions", d, slots, 8, 6*many-6)
	for _, c := range calls() {
		got, _ := c.do(d, far)
		if len(got.Handles) != many || !slices.IsSorted(got.Handles) {
			t.Errorf("%s: many handles: %d", c.promise, len(got.Handles))
		}
	}
	d.Frags[7].At, d.Frags[7].Words = 8*many+3, []uint64{0}
	ends(t, "two regions at one place", d)
}

// The same root very often.
func TestSameRootOften(t *testing.T) {
	d := listOf([]uint64{head(api.HeadTuple, 0)}, 149)
	d.Roots = slices.Repeat(d.Roots, million)
	large(t, "one root, often", d, nil, 0, 299)
	d.Mark = 1
	large(t, "one root, often, its leaf promoted", d, nil, 1, 298)
	d.Mark = 2
	large(t, "one root, often, promoted", d, nil, 299, 0)
}

// Great heads one behind the other: each would reach over all the others.
func TestGreatHeads(t *testing.T) {
	words := make([]uint64, million)
	for kind := range 6 {
		for i := range words {
			words[i] = head(kind, million-1-i)
		}
		d := api.Dump{Young: region(0, words...), Size: million, Mark: million}
		for i := range words {
			d.Roots = append(d.Roots, box(i))
		}
		ends(t, "great heads", d)
		d.Old, d.Young, d.Mark, d.Roots = d.Young, api.Frag{}, 0, nil
		large(t, "great heads that are not reached", d, nil, 0, 0)
	}
}

// Minor after minor goes on in time, for the old region is as large as it is.
func TestManyMinors(t *testing.T) {
	words := make([]uint64, million)
	for i := range words {
		words[i] = small(i)
	}
	at := 2 * million
	d := api.Dump{Old: region(0, words...), Young: region(at), Roots: []uint64{cons(0)}}
	for i := range 200 {
		d.Young.Words = append(d.Young.Words, small(i), d.Roots[len(d.Roots)-1])
		d.Size = len(d.Young.Words)
		d.Roots = append(d.Roots[:1:1], cons(d.Young.At+len(d.Young.Words)-2))
		if i%100 == 99 {
			// The list would be too heavy.
			d.Roots = d.Roots[:1]
		}
		got, ok := collect.Minor(d, at)
		if !ok {
			t.Fatalf("P13.2: the %d-th: false", i)
		}
		d, at = got, at+500
	}
	if len(d.Old.Words) < million+300 || look.Why(d, nil) != "" {
		t.Errorf("P13.2: %d old words, %q", len(d.Old.Words), look.Why(d, nil))
	}
}
