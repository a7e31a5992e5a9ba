package collect_test

import (
	"slices"
	"sync"
	"testing"
	"unsafe"

	"beehive/api"
	"beehive/look"
)

// all is a slice with its unused capacity.
func all[T any](s []T) []T { return s[:cap(s)] }

// roomy are the elements of s, with some unused capacity behind them.
func roomy[T any](s []T, unused ...T) []T { return append(slices.Clone(s), unused...)[:len(s)] }

// roomyDump is d in which each slice has unused capacity.
func roomyDump(d api.Dump) api.Dump {
	d.Young.Words = roomy(d.Young.Words, empty, box(1))
	d.Old.Words = roomy(d.Old.Words, empty, box(1))
	d.Frags = roomy(d.Frags, api.Frag{At: 77}, region(100, 1, 2, 3))
	for i := range d.Frags {
		d.Frags[i].Words = roomy(d.Frags[i].Words, empty, box(1))
	}
	d.Roots = roomy(d.Roots, head(api.HeadTuple, 0), box(1))
	d.Handles = roomy(d.Handles, 5, 6)
	return d
}

// copied is d with memory of its own, unused capacity and all.
func copied(d api.Dump) api.Dump {
	again := func(r api.Frag) api.Frag {
		n := len(r.Words)
		r.Words = slices.Clip(slices.Clone(all(r.Words)))[:n]
		return r
	}
	d.Young, d.Old = again(d.Young), again(d.Old)
	frags := slices.Clip(slices.Clone(all(d.Frags)))
	for i := range frags {
		frags[i] = again(frags[i])
	}
	d.Frags = frags[:len(d.Frags)]
	d.Roots = slices.Clip(slices.Clone(all(d.Roots)))[:len(d.Roots)]
	d.Handles = slices.Clip(slices.Clone(all(d.Handles)))[:len(d.Handles)]
	return d
}

// whole is d with the unused capacity of its slices in use.
func whole(d api.Dump) api.Dump {
	d.Young.Words, d.Old.Words, d.Roots, d.Handles = all(d.Young.Words), all(d.Old.Words), all(d.Roots), all(d.Handles)
	d.Frags = slices.Clone(all(d.Frags))
	for i := range d.Frags {
		d.Frags[i].Words = all(d.Frags[i].Words)
	}
	return d
}

func TestNothingIsChanged(t *testing.T) {
	changes := slices.Concat([]change{{"nothing", func(*api.Dump) {}}}, breakRegions(), breakRoots(), breakOld(), breakHandles())
	for _, one := range changes {
		for mark := -1; mark <= 16; mark += 5 {
			d, _ := changed(one)
			if mark >= 0 {
				d.Mark = mark
			}
			d = roomyDump(d)
			was := copied(d)
			for _, at := range []int{0, 1, 200, 216, 300, far} {
				for _, c := range calls() {
					c.do(d, at)
					if !same(whole(d), whole(was)) {
						t.Fatalf("R4: %s: %s: the dump is changed", c.promise, one.what)
					}
				}
			}
		}
	}
}

// spans are the pieces of memory of the lists of d, up to their capacities.
func spans(d api.Dump) [][2]uintptr {
	var made [][2]uintptr
	add := func(at unsafe.Pointer, bytes uintptr) {
		if bytes > 0 {
			made = append(made, [2]uintptr{uintptr(at), uintptr(at) + bytes})
		}
	}
	for _, words := range [][]uint64{d.Young.Words, d.Old.Words, d.Roots} {
		add(unsafe.Pointer(unsafe.SliceData(words)), uintptr(8*cap(words)))
	}
	add(unsafe.Pointer(unsafe.SliceData(d.Handles)), uintptr(8*cap(d.Handles)))
	for _, r := range all(d.Frags) {
		add(unsafe.Pointer(unsafe.SliceData(r.Words)), uintptr(8*cap(r.Words)))
	}
	return made
}

func TestNothingIsShared(t *testing.T) {
	for mark := 0; mark <= 16; mark++ {
		for _, roots := range [][]uint64{nil, {small(4)}, {box(102), cons(204), box(310), small(5), empty, box(110)}, {cons(204)}, {box(110)}} {
			d, slots := good()
			d.Mark, d.Roots = mark, roots
			d = roomyDump(d)
			for _, c := range calls() {
				first, second := c.does(t, "shared", d, 900), c.does(t, "shared", d, 900)
				if !same(first, second) {
					t.Errorf("R5: %s: %v and %v", c.promise, first, second)
				}
				pieces := slices.Concat(spans(d), spans(first), spans(second))
				for i, a := range pieces {
					for _, b := range pieces[:i] {
						if a[0] < b[1] && b[0] < a[1] {
							t.Errorf("R4: %s: mark %d, roots %x: lists share memory", c.promise, mark, roots)
						}
					}
				}
				clear(all(first.Young.Words))
				clear(all(first.Old.Words))
				clear(all(first.Roots))
				clear(all(first.Handles))
				if again, _ := good(); !slices.Equal(d.Old.Words, again.Old.Words) || !alike(d, second, slots) {
					t.Errorf("R4: %s: an answer is changed with another one", c.promise)
				}
			}
		}
	}
}

// Regions of a dump may be pieces of the same memory.
func TestSharedArguments(t *testing.T) {
	words := []uint64{small(1), empty, head(api.HeadTuple, 1), small(2), small(3), empty}
	d := api.Dump{
		Young: region(10, words[:4]...), Old: region(30, words...), Size: 4, Mark: 2,
		Frags: []api.Frag{region(50, words[2:]...), region(60, words[:4]...), region(70, words[:4]...)},
		Roots: []uint64{cons(10), box(12), cons(30), box(32), box(50), cons(52), cons(60), box(62), cons(70), cons(34)},
	}
	d.Old.Words, d.Young.Words = words, words[:4]
	d.Frags[0].Words, d.Frags[1].Words, d.Frags[2].Words = words[2:], words[:4], words[:4]
	for _, c := range calls() {
		got := c.does(t, "regions in the same memory", d, 100)
		if why := look.Why(got, nil); why != "" || !alike(d, got, nil) {
			t.Errorf("%s: regions in the same memory: %q of %v", c.promise, why, got)
		}
	}
	if !slices.Equal(words, []uint64{small(1), empty, head(api.HeadTuple, 1), small(2), small(3), empty}) {
		t.Errorf("R4: the words: %v", words)
	}
}

// Both may be called at the same time.
func TestAtOnce(t *testing.T) {
	d, _ := good()
	d = roomyDump(d)
	var want []api.Dump
	for _, c := range calls() {
		want = append(want, c.does(t, "at once", d, 600))
	}
	var group sync.WaitGroup
	for range 8 {
		group.Go(func() {
			for range 200 {
				for i, c := range calls() {
					if got, ok := c.do(d, 600); !ok || !same(got, want[i]) {
						t.Errorf("R5: %s: another answer beside others", c.promise)
					}
				}
			}
		})
	}
	group.Wait()
}
