package word_test

import (
	"math"
	"math/big"
	"sync"
	"testing"

	"beehive/api"
	"beehive/word"
)

const bound = 1 << 20

// span is the range of the loads of a tag, by the words of the chapter.
type span struct {
	tag, least, most int
	plain            bool
}

func spans() []span {
	return []span{
		{api.TagInt, api.Least, api.Greatest, true},
		{api.TagAtom, 0, api.MaxAtom, true},
		{api.TagPid, 0, api.MaxPid, true},
		{api.TagNil, 0, 0, true},
		{api.TagBox, 0, api.Greatest, true},
		{api.TagCons, 0, api.Greatest, true},
		{api.TagHead, 0, api.Greatest, false},
		{api.TagForward, 0, api.Greatest, false},
	}
}

// loads are ints around every limit of a load, and as far out as an int goes.
func loads() []int {
	made := []int{math.MinInt, math.MinInt + 1, math.MaxInt - 1, math.MaxInt}
	for _, near := range []int{0, 8, api.MaxAtom, api.MaxPid, bound, 1 << 32, api.Greatest, api.Least, 1 << 61, -1 << 61, 1 << 62, -1 << 62} {
		for by := -2; by <= 2; by++ {
			made = append(made, near+by)
		}
	}
	return made
}

// places are tags or kinds, and ints that are neither.
func places() []int {
	made := []int{math.MinInt, math.MinInt + 1, math.MinInt + 6, -1 << 32, 1 << 32, 1 << 61, math.MaxInt - 1, math.MaxInt}
	for n := -20; n <= 20; n++ {
		made = append(made, n)
	}
	return made
}

// written is the word whose value is 8 times load plus tag, by numbers that
// know no bits.
func written(tag int, load int) uint64 {
	sum := new(big.Int).Mul(big.NewInt(int64(load)), big.NewInt(8))
	sum.Add(sum, big.NewInt(int64(tag)))
	return sum.Mod(sum, new(big.Int).Lsh(big.NewInt(1), 64)).Uint64()
}

func checkMade(t *testing.T, tag int, load int) {
	t.Helper()
	want := written(tag, load)
	w, ok := word.Make(tag, load)
	if w != want || !ok {
		t.Errorf("P8.1: Make(%d, %d): %#x, %v, not %#x", tag, load, w, ok, want)
	}
	if gotTag, gotLoad := word.Tag(want), word.Load(want); gotTag != tag || gotLoad != load {
		t.Errorf("P8.1: Tag and Load of %#x: %d, %d, not %d, %d", want, gotTag, gotLoad, tag, load)
	}
	if got := word.Plain(want); got != (tag < api.TagHead) {
		t.Errorf("P8.1: Plain(%#x), of tag %d and load %d: %v", want, tag, load, got)
	}
}

func checkNotMade(t *testing.T, tag int, load int) {
	t.Helper()
	if w, ok := word.Make(tag, load); w != 0 || ok {
		t.Errorf("P8.1: Make(%d, %d): %#x, %v, not 0, false", tag, load, w, ok)
	}
}

func checkHead(t *testing.T, kind int, size int) {
	t.Helper()
	want := written(api.TagHead, 8*size+kind)
	if w, ok := word.Head(kind, size); w != want || !ok {
		t.Errorf("P8.1: Head(%d, %d): %#x, %v, not %#x", kind, size, w, ok, want)
	}
	if gotKind, gotSize, ok := word.Parts(want); gotKind != kind || gotSize != size || !ok {
		t.Errorf("P8.1: Parts(%#x): %d, %d, %v, not %d, %d", want, gotKind, gotSize, ok, kind, size)
	}
	if gotTag, gotLoad := word.Tag(want), word.Load(want); gotTag != api.TagHead || gotLoad != 8*size+kind || word.Plain(want) {
		t.Errorf("P8.1: the head %#x: %d, %d", want, gotTag, gotLoad)
	}
}

func checkNoHead(t *testing.T, kind int, size int) {
	t.Helper()
	if w, ok := word.Head(kind, size); w != 0 || ok {
		t.Errorf("P8.1: Head(%d, %d): %#x, %v, not 0, false", kind, size, w, ok)
	}
}

func checkNoParts(t *testing.T, w uint64) {
	t.Helper()
	if kind, size, ok := word.Parts(w); kind != 0 || size != 0 || ok {
		t.Errorf("P8.1: Parts(%#x): %d, %d, %v, not 0, 0, false", w, kind, size, ok)
	}
}

// Here nothing but the chapter is asked: the words are written out.
func TestWordsWrittenOut(t *testing.T) {
	for _, x := range []struct {
		tag, load int
		want      uint64
	}{
		{api.TagInt, 0, 0},
		{api.TagInt, 1, 0x8},
		{api.TagInt, -1, 0xffff_ffff_ffff_fff8},
		{api.TagInt, -2, 0xffff_ffff_ffff_fff0},
		{api.TagInt, api.Greatest, 0x7fff_ffff_ffff_fff8},
		{api.TagInt, api.Least, 0x8000_0000_0000_0000},
		{api.TagAtom, 0, 0x1},
		{api.TagAtom, api.MaxAtom, 0x7f9},
		{api.TagPid, 0, 0x2},
		{api.TagPid, api.MaxPid, 0x1fa},
		{api.TagNil, 0, 0x3},
		{api.TagBox, 0, 0x4},
		{api.TagBox, 0x123, 0x91c},
		{api.TagBox, api.Greatest, 0x7fff_ffff_ffff_fffc},
		{api.TagCons, 0, 0x5},
		{api.TagCons, api.Greatest, 0x7fff_ffff_ffff_fffd},
		{api.TagHead, 0, 0x6},
		{api.TagHead, api.Greatest, 0x7fff_ffff_ffff_fffe},
		{api.TagForward, 0, 0x7},
		{api.TagForward, api.Greatest, 0x7fff_ffff_ffff_ffff},
	} {
		if w, ok := word.Make(x.tag, x.load); w != x.want || !ok {
			t.Errorf("P8.1: Make(%d, %d): %#x, %v, not %#x", x.tag, x.load, w, ok, x.want)
		}
		checkMade(t, x.tag, x.load)
	}
	for _, x := range []struct {
		kind, size int
		want       uint64
	}{
		{api.HeadTuple, 0, 0x6},
		{api.HeadBig, 1, 0x4e},
		{api.HeadFloat, 1, 0x56},
		{api.HeadBytes, 9, 0x25e},
		{api.HeadRefc, 3, 0xe6},
		{api.HeadSub, 3, 0xee},
		{api.HeadTuple, bound, 0x400_0006},
		{api.HeadSub, bound, 0x400_002e},
	} {
		if w, ok := word.Head(x.kind, x.size); w != x.want || !ok {
			t.Errorf("P8.1: Head(%d, %d): %#x, %v, not %#x", x.kind, x.size, w, ok, x.want)
		}
		checkHead(t, x.kind, x.size)
	}
}

func TestMakeAtTheEndsOfEachRange(t *testing.T) {
	for _, x := range spans() {
		checkMade(t, x.tag, x.least)
		checkMade(t, x.tag, x.most)
		checkNotMade(t, x.tag, x.least-1)
		checkNotMade(t, x.tag, x.most+1)
		checkNotMade(t, x.tag, math.MinInt)
		checkNotMade(t, x.tag, math.MaxInt)
	}
}

func TestMakeOfAllLoads(t *testing.T) {
	for _, x := range spans() {
		for _, load := range loads() {
			if x.least <= load && load <= x.most {
				checkMade(t, x.tag, load)
			} else {
				checkNotMade(t, x.tag, load)
			}
		}
	}
	// The atoms and the pids are few: all of them.
	for load := -1000; load <= 1000; load++ {
		for _, x := range spans() {
			if x.least <= load && load <= x.most {
				checkMade(t, x.tag, load)
			} else {
				checkNotMade(t, x.tag, load)
			}
		}
	}
}

func TestMakeOfNoTag(t *testing.T) {
	for _, tag := range places() {
		if 0 <= tag && tag <= 7 {
			continue
		}
		for _, load := range loads() {
			checkNotMade(t, tag, load)
		}
	}
}

// Each tag and load is that of the word, even if Make returns no such word.
func TestTagAndLoadOfAnyWord(t *testing.T) {
	for _, x := range []struct {
		w         uint64
		tag, load int
	}{
		{0, api.TagInt, 0},
		{math.MaxUint64, api.TagForward, 1<<61 - 1},
		{math.MaxUint64 - 7, api.TagInt, -1},
		{1 << 63, api.TagInt, -1 << 60},
		{1<<63 | 1, api.TagAtom, 1 << 60},
		{256<<3 | 1, api.TagAtom, 256},
		{64<<3 | 2, api.TagPid, 64},
		{1<<3 | 3, api.TagNil, 1},
		{1<<63 | 4, api.TagBox, 1 << 60},
		{1<<63 | 5, api.TagCons, 1 << 60},
		{1<<63 | 6, api.TagHead, 1 << 60},
		{1<<63 | 7, api.TagForward, 1 << 60},
		{math.MaxUint64 - 1, api.TagHead, 1<<61 - 1},
		{math.MaxUint64 - 6, api.TagAtom, 1<<61 - 1},
	} {
		if tag, load := word.Tag(x.w), word.Load(x.w); tag != x.tag || load != x.load {
			t.Errorf("P8.1: Tag and Load of %#x: %d, %d, not %d, %d", x.w, tag, load, x.tag, x.load)
		}
	}
}

// words are around each power of two, and words whose bits are mixed.
func words() []uint64 {
	var made []uint64
	for bit := range 64 {
		for by := range uint64(33) {
			made = append(made, 1<<bit+by, 1<<bit-by)
		}
	}
	state := uint64(1)
	for i := range 20000 {
		state = state*6364136223846793005 + 1442695040888963407
		made = append(made, (state^state>>29)>>(i%64))
	}
	return made
}

// checkAny holds all that is told of w against numbers that know no bits.
func checkAny(t *testing.T, w uint64) {
	t.Helper()
	tag, load := int(w%8), int(w/8)
	if tag == api.TagInt && w >= 1<<63 {
		load -= 1 << 61
	}
	if gotTag, gotLoad := word.Tag(w), word.Load(w); gotTag != tag || gotLoad != load {
		t.Errorf("P8.1: Tag and Load of %#x: %d, %d, not %d, %d", w, gotTag, gotLoad, tag, load)
	}
	x := spans()[tag]
	made := x.least <= load && load <= x.most
	if made {
		checkMade(t, tag, load)
	} else {
		checkNotMade(t, tag, load)
	}
	if got := word.Plain(w); got != (made && x.plain) {
		t.Errorf("P8.1: Plain(%#x): %v", w, got)
	}
	if tag == api.TagHead && load%8 <= api.HeadSub && load/8 <= bound {
		checkHead(t, load%8, load/8)
	} else {
		checkNoParts(t, w)
	}
}

func TestAnyWord(t *testing.T) {
	checkAny(t, 0)
	checkAny(t, math.MaxUint64)
	for _, w := range words() {
		checkAny(t, w)
		// Few of the words above are heads.
		checkAny(t, w%(1<<28)/8*8+api.TagHead)
	}
}

func TestHeads(t *testing.T) {
	sizes := append(loads(), 1, 2, 3, 9, 1000, bound/2)
	for _, kind := range places() {
		for _, size := range sizes {
			if 0 <= kind && kind <= 5 && 0 <= size && size <= bound {
				checkHead(t, kind, size)
			} else {
				checkNoHead(t, kind, size)
			}
		}
	}
}

func TestHeadAtTheEndsOfEachRange(t *testing.T) {
	for kind := api.HeadTuple; kind <= api.HeadSub; kind++ {
		checkHead(t, kind, 0)
		checkHead(t, kind, bound)
		checkNoHead(t, kind, -1)
		checkNoHead(t, kind, bound+1)
		checkNoHead(t, kind, math.MinInt)
		checkNoHead(t, kind, math.MaxInt)
		// A size that is too great by a power of two loses no bits.
		for bit := 21; bit < 63; bit++ {
			checkNoHead(t, kind, 1<<bit)
			checkNoHead(t, kind, -1<<bit)
		}
	}
	for _, size := range []int{0, 1, bound} {
		checkNoHead(t, api.HeadTuple-1, size)
		checkNoHead(t, api.HeadSub+1, size)
		checkNoHead(t, math.MinInt, size)
		checkNoHead(t, math.MaxInt, size)
	}
}

func TestPartsOfNoHead(t *testing.T) {
	for kind := range 8 {
		for _, size := range []int{0, 1, 3, bound, bound + 1, 1<<57 - 1, 1 << 57, 1<<58 - 1} {
			w := written(api.TagHead, 8*size+kind)
			if kind > api.HeadSub || size > bound {
				checkNoParts(t, w)
				continue
			}
			checkHead(t, kind, size)
			for tag := range 8 {
				if tag != api.TagHead {
					checkNoParts(t, w-api.TagHead+uint64(tag))
				}
			}
		}
	}
	// Make knows no kinds and sizes: not every word with TagHead is a head.
	for _, load := range []int{6, 7, 8*bound + 6, 8*bound + 8, api.Greatest} {
		w, ok := word.Make(api.TagHead, load)
		if !ok {
			t.Errorf("P8.1: Make(TagHead, %d)", load)
		}
		checkNoParts(t, w)
	}
	checkNoParts(t, 0)
	checkNoParts(t, math.MaxUint64)
}

func TestPlainBeyondTheRange(t *testing.T) {
	for _, x := range spans() {
		for _, load := range []int{x.most + 1, x.most + 2, 2*x.most + 1, 1 << 60, 1<<61 - 1} {
			// There is no word with TagInt and a load that is out of range.
			if x.tag == api.TagInt || load <= x.most {
				continue
			}
			if w := written(x.tag, load); word.Plain(w) {
				t.Errorf("P8.1: Plain(%#x), of tag %d and load %d", w, x.tag, load)
			}
		}
	}
	for _, tag := range []int{api.TagHead, api.TagForward} {
		for _, load := range []int{0, 1, 8, api.Greatest} {
			if w, ok := word.Make(tag, load); !ok || word.Plain(w) {
				t.Errorf("P8.1: Plain(%#x), of tag %d and load %d", w, tag, load)
			}
		}
	}
}

func TestManyAtOnce(t *testing.T) {
	var group sync.WaitGroup
	for worker := range 8 {
		group.Go(func() {
			for i, w := range words() {
				if i%8 == worker {
					checkAny(t, w)
				}
			}
		})
	}
	group.Wait()
}
