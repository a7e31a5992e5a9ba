package look_test

import (
	"slices"
	"sync"
	"testing"
	"unsafe"

	"beehive/api"
	"beehive/look"
)

// roomy are the words of ws, with some unused capacity behind them.
func roomy[T any](ws []T, unused ...T) []T { return append(slices.Clone(ws), unused...)[:len(ws)] }

// roomyDump is d in which each slice has unused capacity.
func roomyDump(d api.Dump) api.Dump {
	d.Young.Words = roomy(d.Young.Words, empty, box(1))
	d.Old.Words = roomy(d.Old.Words, empty, box(1))
	d.Frags = roomy(d.Frags, api.Frag{At: 77}, api.Frag{At: 78})
	for i := range d.Frags {
		d.Frags[i].Words = roomy(d.Frags[i].Words, empty, box(1))
	}
	d.Roots = roomy(d.Roots, empty, box(1))
	d.Handles = roomy(d.Handles, 5, 6)
	return d
}

// all is a slice with its unused capacity.
func all[T any](s []T) []T { return s[:cap(s)] }

func sameFrag(a api.Frag, b api.Frag) bool {
	return a.At == b.At && len(a.Words) == len(b.Words) && slices.Equal(all(a.Words), all(b.Words))
}

func sameDump(a api.Dump, b api.Dump) bool {
	return sameFrag(a.Young, b.Young) && sameFrag(a.Old, b.Old) && a.Size == b.Size && a.Mark == b.Mark &&
		len(a.Frags) == len(b.Frags) && slices.EqualFunc(all(a.Frags), all(b.Frags), sameFrag) &&
		slices.Equal(all(a.Roots), all(b.Roots)) && slices.Equal(all(a.Handles), all(b.Handles))
}

func copied(d api.Dump) api.Dump {
	again := func(r api.Frag) api.Frag {
		n := len(r.Words)
		r.Words = slices.Clip(slices.Clone(all(r.Words)))[:n]
		return r
	}
	d.Young, d.Old = again(d.Young), again(d.Old)
	frags := slices.Clip(slices.Clone(all(d.Frags)))
	for i := range frags {
		frags[i] = again(frags[i])
	}
	d.Frags = frags[:len(d.Frags)]
	d.Roots = slices.Clip(slices.Clone(all(d.Roots)))[:len(d.Roots)]
	d.Handles = slices.Clip(slices.Clone(all(d.Handles)))[:len(d.Handles)]
	return d
}

func TestNothingIsChanged(t *testing.T) {
	var changes []change
	for _, some := range [][]change{{{"nothing", func(*api.Dump, []api.Slot) {}}}, breakRegions(), breakRoots(), breakOld(), breakHandles()} {
		changes = append(changes, some...)
	}
	changes = append(changes, change{"fragments in another order", func(d *api.Dump, s []api.Slot) { slices.Reverse(d.Frags) }})
	for _, one := range changes {
		d, slots := good()
		one.do(&d, slots)
		d, slots = roomyDump(d), roomy(slots, api.Slot{Stamp: 1})
		was, had := copied(d), slices.Clone(all(slots))
		look.Why(d, slots)
		look.Live(d)
		look.Handles(d)
		for _, w := range append(wrongs(), d.Roots...) {
			look.Read(d, slots, w)
		}
		if !sameDump(d, was) || !slices.Equal(all(slots), had) {
			t.Errorf("R4: %s: the dump or the slots are changed", one.what)
		}
	}
}

// strings of a term, and where its slices stand.
func memory(t api.Term, slices map[unsafe.Pointer]int, texts map[*byte]int) {
	if len(t.Bytes) > 0 {
		texts[unsafe.StringData(t.Bytes)]++
	}
	if cap(t.Num.Mag) > 0 {
		slices[unsafe.Pointer(unsafe.SliceData(t.Num.Mag))]++
	}
	if len(t.Args) > 0 {
		slices[unsafe.Pointer(unsafe.SliceData(t.Args))]++
	}
	for _, part := range t.Args {
		memory(part, slices, texts)
	}
}

func TestNothingIsShared(t *testing.T) {
	slots := []api.Slot{{Stamp: 1, Count: 1, Bytes: xs(100)}}
	words := []uint64{
		head(api.HeadTuple, 8), box(10), box(10), box(14), box(14), box(18), box(18), cons(23), cons(23),
		head(api.HeadRefc, 3), 0, 1, 100,
		head(api.HeadSub, 3), box(10), 0, 100,
		head(api.HeadBig, 4), 0, 1, 2, 3,
		box(18), box(10),
	}
	d := young(words...)
	inSlots := map[*byte]int{unsafe.StringData(slots[0].Bytes): 1}
	for i := range slots[0].Bytes {
		inSlots[unsafe.StringData(slots[0].Bytes[i:])] = 1
	}
	lists, texts := map[unsafe.Pointer]int{}, map[*byte]int{}
	var terms []api.Term
	for range 3 {
		made, ok := look.Read(d, slots, box(1))
		if !ok {
			t.Fatal("P12.1: a tuple that shares")
		}
		memory(made, lists, texts)
		terms = append(terms, made)
	}
	for at, times := range lists {
		if times > 1 {
			t.Errorf("R4: a list of a term stands in %d places: %v", times, at)
		}
	}
	for at := range texts {
		if inSlots[at] > 0 {
			t.Error("R4: the bytes of a term are those of a slot")
		}
	}
	// What is done to one answer is not seen in another one.
	want, _ := model{d, slots}.read(box(1))
	for i := range terms[0].Args {
		terms[0].Args[i] = api.Term{}
	}
	terms[1].Args[4].Num.Mag[0] = 9
	terms[1].Args[6].Args[0].Num.Mag[0] = 8
	if !alike(terms[2], want) || terms[1].Args[5].Num.Mag[0] != 1 || terms[1].Args[7].Args[0].Num.Mag[0] != 1 {
		t.Errorf("R4: an answer is changed with another one: %v", terms)
	}
	reads(t, "behind changes of answers", d, slots, box(1), want)
}

func TestHandlesAreNew(t *testing.T) {
	d, slots := good()
	first := look.Handles(d)
	clear(all(first))
	if second := look.Handles(d); !slices.Equal(second, []int{200, 300}) || look.Why(d, slots) != "" {
		t.Errorf("R4: Handles behind a change of its answer: %v", second)
	}
	if !slices.Equal(d.Handles, []int{300, 200, 304}) {
		t.Errorf("R4: Handles of the dump: %v", d.Handles)
	}
}

// The unused capacity of an argument counts for nothing.
func TestUnusedCounts(t *testing.T) {
	d, slots := good()
	rich := roomyDump(d)
	all(rich.Frags)[2] = region(100, 1, 2, 3)
	all(rich.Roots)[len(rich.Roots)] = head(api.HeadTuple, 0)
	if why := look.Why(rich, slots); why != "" || look.Live(rich) != look.Live(d) {
		t.Errorf("R4: %q, %d", why, look.Live(rich))
	}
}

// All of it may be asked at the same time.
func TestAtOnce(t *testing.T) {
	d, slots := good()
	live, handles := look.Live(d), look.Handles(d)
	want, _ := look.Read(d, slots, box(102))
	var group sync.WaitGroup
	for range 8 {
		group.Go(func() {
			for range 300 {
				got, ok := look.Read(d, slots, box(102))
				if !ok || !alike(got, want) || look.Why(d, slots) != "" || look.Live(d) != live || !slices.Equal(look.Handles(d), handles) {
					t.Error("R5: another answer beside others")
				}
			}
		})
	}
	group.Wait()
}
