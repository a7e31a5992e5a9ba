package look

import (
	"beehive/api"
	"beehive/real"
	"beehive/term"
	"beehive/word"
)

const (
	// pair is the kind of an object that has no head: two plain words.
	pair = -1
	// lastCount is the last slot and the last stamp that a HeadRefc may name.
	lastCount = 1 << 30
	// wordBytes is how many bytes stand in a word.
	wordBytes = 8
)

// object is what a word leads to: the kind of its head, and the words behind
// the head.
type object struct {
	kind  int
	words []uint64
}

// size is the number of words of o, with its head.
func (o object) size() int {
	if o.kind == pair {
		return len(o.words)
	}
	return 1 + len(o.words)
}

// leads returns the words of o that may lead to further objects.
func (o object) leads() []uint64 {
	switch o.kind {
	case pair, api.HeadTuple:
		return o.words
	case api.HeadSub:
		return o.words[:1]
	}
	return nil
}

// objectAt returns the object that w leads to, if w has the tag of an address
// and the object is formed.
func objectAt(m memory, w uint64) (object, bool) {
	o, ok := outline(m, w)
	if !ok || !formed(m, o) {
		return object{}, false
	}
	return o, true
}

// outline returns the object that w leads to, if it lies within its region,
// and asks nothing of its words.
func outline(m memory, w uint64) (object, bool) {
	switch word.Tag(w) {
	case api.TagCons:
		words := m.from(word.Load(w))
		if len(words) < 2 {
			return object{}, false
		}
		return object{kind: pair, words: words[:2]}, true
	case api.TagBox:
		words := m.from(word.Load(w))
		if len(words) == 0 {
			return object{}, false
		}
		kind, size, ok := word.Parts(words[0])
		if !ok || size >= len(words) {
			return object{}, false
		}
		return object{kind: kind, words: words[1 : 1+size]}, true
	}
	return object{}, false
}

// formed reports whether the words of o are as its kind demands. It leaves out
// whether they stand for something, where they stand for parts of a term.
func formed(m memory, o object) bool {
	switch o.kind {
	case pair:
		return true
	case api.HeadTuple:
		return len(o.words) <= api.MaxTuple
	case api.HeadBig:
		return isBig(o.words)
	case api.HeadFloat:
		return len(o.words) == 1 && real.May(o.words[0])
	case api.HeadBytes:
		return isBytes(o.words)
	case api.HeadRefc:
		return isRefc(o.words)
	case api.HeadSub:
		return isSub(m, o.words)
	}
	return false
}

func isBig(words []uint64) bool {
	pairs := len(words) - 1
	return 1 <= pairs && pairs <= api.MaxLimbs/2 && words[0] <= 1 && term.May(big(words))
}

// big returns the term of a HeadBig, valid or not.
func big(words []uint64) api.Term {
	var mag []uint32
	for _, w := range words[1:] {
		mag = append(mag, uint32(w), uint32(w>>32))
	}
	if last := len(mag) - 1; mag[last] == 0 {
		// Where the limbs are odd in number, half of the last word is unused.
		mag = mag[:last]
	}
	return api.Term{Kind: api.Big, Num: api.Num{Neg: words[0] == 1, Mag: mag}}
}

func isBytes(words []uint64) bool {
	if len(words) == 0 || words[0] > api.HeapBytes {
		return false
	}
	many := int(words[0])
	if len(words)-1 != (many+wordBytes-1)/wordBytes {
		return false
	}
	for _, unused := range bytesIn(words)[many:] {
		if unused != 0 {
			return false
		}
	}
	return true
}

// bytesIn returns the bytes of a HeadBytes, and the unused ones behind them.
func bytesIn(words []uint64) []byte {
	made := make([]byte, 0, wordBytes*(len(words)-1))
	for _, w := range words[1:] {
		for i := range wordBytes {
			made = append(made, byte(w>>(8*i)))
		}
	}
	return made
}

// isRefc leaves out whether there is such a slot.
func isRefc(words []uint64) bool {
	return len(words) == 3 && words[0] <= lastCount && words[1] <= lastCount && words[2] <= api.MaxBytes
}

// isSub compares numbers without a sign: what is below 0 is greater than any
// number of bytes.
func isSub(m memory, words []uint64) bool {
	if len(words) != 3 {
		return false
	}
	o, ok := outline(m, words[0])
	if !ok || o.kind != api.HeadBytes && o.kind != api.HeadRefc || !formed(m, o) {
		return false
	}
	all, from, many := bytesOf(o), words[1], words[2]
	return from <= all && many <= all-from
}

// bytesOf returns the number of bytes of a HeadBytes or a HeadRefc.
func bytesOf(o object) uint64 {
	if o.kind == api.HeadBytes {
		return o.words[0]
	}
	return o.words[2]
}

// slotOf returns the slot that a HeadRefc denotes, if it is the one that was
// meant and in use.
func slotOf(slots []api.Slot, o object) (api.Slot, bool) {
	if o.words[0] >= uint64(len(slots)) {
		return api.Slot{}, false
	}
	s := slots[o.words[0]]
	if s.Count == 0 || s.Stamp != int(o.words[1]) || len(s.Bytes) != int(o.words[2]) {
		return api.Slot{}, false
	}
	return s, true
}
