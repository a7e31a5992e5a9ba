package memory

import (
	"beehive/api"
	"beehive/real"
	"beehive/term"
	"beehive/word"
)

const (
	// Pair is the kind of an object that has no head: two plain words.
	Pair = -1
	// lastCount is the last slot and the last stamp that a HeadRefc may name.
	lastCount = 1 << 30
	// wordBytes is how many bytes stand in a word.
	wordBytes = 8
)

// Points reports whether w has the tag of an address.
func Points(w uint64) bool {
	return word.Tag(w) == api.TagBox || word.Tag(w) == api.TagCons
}

// Object is what a word leads to: the kind of its head, and the words behind
// the head.
type Object struct {
	Kind  int
	Words []uint64
}

// Size is the number of words of o, with its head.
func (o Object) Size() int {
	if o.Kind == Pair {
		return len(o.Words)
	}
	return 1 + len(o.Words)
}

// leads returns the words of o that may lead to further objects.
func (o Object) leads() []uint64 {
	switch o.Kind {
	case Pair, api.HeadTuple:
		return o.Words
	case api.HeadSub:
		return o.Words[:1]
	}
	return nil
}

// ObjectAt returns the object that w leads to, if w has the tag of an address
// and the object is formed.
func ObjectAt(m Memory, w uint64) (Object, bool) {
	o, ok := Outline(m, w)
	if !ok || !formed(m, o) {
		return Object{}, false
	}
	return o, true
}

// Outline returns the object that w leads to, if it lies within its region,
// and asks nothing of its words.
func Outline(m Memory, w uint64) (Object, bool) {
	switch word.Tag(w) {
	case api.TagCons:
		words := m.From(word.Load(w))
		if len(words) < 2 {
			return Object{}, false
		}
		return Object{Kind: Pair, Words: words[:2]}, true
	case api.TagBox:
		words := m.From(word.Load(w))
		if len(words) == 0 {
			return Object{}, false
		}
		kind, size, ok := word.Parts(words[0])
		if !ok || size >= len(words) {
			return Object{}, false
		}
		return Object{Kind: kind, Words: words[1 : 1+size]}, true
	}
	return Object{}, false
}

// formed reports whether the words of o are as its kind demands. It leaves out
// whether they stand for something, where they stand for parts of a term.
func formed(m Memory, o Object) bool {
	switch o.Kind {
	case Pair:
		return true
	case api.HeadTuple:
		return len(o.Words) <= api.MaxTuple
	case api.HeadBig:
		return isBig(o.Words)
	case api.HeadFloat:
		return len(o.Words) == 1 && real.May(o.Words[0])
	case api.HeadBytes:
		return isBytes(o.Words)
	case api.HeadRefc:
		return isRefc(o.Words)
	case api.HeadSub:
		return isSub(m, o.Words)
	}
	return false
}

func isBig(words []uint64) bool {
	pairs := len(words) - 1
	return 1 <= pairs && pairs <= api.MaxLimbs/2 && words[0] <= 1 && term.May(big(words))
}

// big returns the term of a HeadBig, valid or not.
func big(words []uint64) api.Term {
	var mag []uint32
	for _, w := range words[1:] {
		mag = append(mag, uint32(w), uint32(w>>32))
	}
	if last := len(mag) - 1; mag[last] == 0 {
		// Where the limbs are odd in number, half of the last word is unused.
		mag = mag[:last]
	}
	return api.Term{Kind: api.Big, Num: api.Num{Neg: words[0] == 1, Mag: mag}}
}

func isBytes(words []uint64) bool {
	if len(words) == 0 || words[0] > api.HeapBytes {
		return false
	}
	many := int(words[0])
	if len(words)-1 != (many+wordBytes-1)/wordBytes {
		return false
	}
	for _, unused := range bytesIn(words)[many:] {
		if unused != 0 {
			return false
		}
	}
	return true
}

// bytesIn returns the bytes of a HeadBytes, and the unused ones behind them.
func bytesIn(words []uint64) []byte {
	made := make([]byte, 0, wordBytes*(len(words)-1))
	for _, w := range words[1:] {
		for i := range wordBytes {
			made = append(made, byte(w>>(8*i)))
		}
	}
	return made
}

// isRefc leaves out whether there is such a slot.
func isRefc(words []uint64) bool {
	return len(words) == 3 && words[0] <= lastCount && words[1] <= lastCount && words[2] <= api.MaxBytes
}

// isSub compares numbers without a sign: what is below 0 is greater than any
// number of bytes.
func isSub(m Memory, words []uint64) bool {
	if len(words) != 3 {
		return false
	}
	o, ok := Outline(m, words[0])
	if !ok || o.Kind != api.HeadBytes && o.Kind != api.HeadRefc || !formed(m, o) {
		return false
	}
	all, from, many := bytesOf(o), words[1], words[2]
	return from <= all && many <= all-from
}

// bytesOf returns the number of bytes of a HeadBytes or a HeadRefc.
func bytesOf(o Object) uint64 {
	if o.Kind == api.HeadBytes {
		return o.Words[0]
	}
	return o.Words[2]
}

// ofSlot reports whether the bytes of o are those of a slot, or a part of them.
func ofSlot(m Memory, o Object) bool {
	if o.Kind == api.HeadSub {
		o, _ = Outline(m, o.Words[0])
	}
	return o.Kind == api.HeadRefc
}

// SlotOf returns the slot that a HeadRefc denotes, if it is the one that was
// meant and in use.
func SlotOf(slots []api.Slot, o Object) (api.Slot, bool) {
	if o.Words[0] >= uint64(len(slots)) {
		return api.Slot{}, false
	}
	s := slots[o.Words[0]]
	if s.Count == 0 || s.Stamp != int(o.Words[1]) || len(s.Bytes) != int(o.Words[2]) {
		return api.Slot{}, false
	}
	return s, true
}

// Next returns where among the words, from i on, stands the first one that may
// lead somewhere, and where to go on behind it. What stands behind a head leads
// nowhere, but for the words of a tuple, which are gone through one by one, and
// the first one of a HeadSub.
func Next(words []uint64, i int) (int, int) {
	kind, size, ok := word.Parts(words[i])
	if !ok || kind == api.HeadTuple {
		return i, i + 1
	}
	own := 1 + min(size, len(words)-i-1)
	if kind == api.HeadSub && own > 1 {
		return i + 1, i + own
	}
	return i, i + own
}
