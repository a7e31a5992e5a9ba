package memory

import (
	"strings"

	"beehive/api"
	"beehive/weigh"
	"beehive/word"
)

// reader reads the terms that words stand for.
type reader struct {
	memory Memory
	slots  []api.Slot
	// light says that the bytes of the slots are left out of the weight, and
	// whether there are such slots.
	light bool
	// known holds the weights of objects that have been weighed, by the words
	// that lead to them. A reader of a single word needs none.
	known map[uint64]int
}

// Read returns the term that w stands for, if it stands for a valid one.
func Read(m Memory, slots []api.Slot, w uint64) (api.Term, bool) {
	r := reader{memory: m, slots: slots}
	if r.weight(w, api.MaxWeight) == 0 {
		return api.Term{}, false
	}
	return r.term(w), true
}

// Readable reports whether each of the roots stands for a valid term.
func Readable(m Memory, slots []api.Slot, roots []uint64) bool {
	return reader{memory: m, slots: slots, known: map[uint64]int{}}.readable(roots)
}

// ReadableLight is Readable where the bytes of the slots are not considered: a
// HeadRefc, and a part of one, has the weight 1.
func ReadableLight(m Memory, roots []uint64) bool {
	return reader{memory: m, light: true, known: map[uint64]int{}}.readable(roots)
}

func (r reader) readable(roots []uint64) bool {
	for _, w := range roots {
		if r.weight(w, api.MaxWeight) == 0 {
			return false
		}
	}
	return true
}

// weight returns the weight of the term that w stands for; 0 if w stands for
// none, or for one that weighs more than most. Each part takes at least 1, so
// that terms that hold themselves end too.
func (r reader) weight(w uint64, most int) int {
	if most < 1 || !word.Plain(w) {
		return 0
	}
	if !Points(w) {
		return 1
	}
	sum, ok := r.known[w]
	if !ok {
		sum = r.weighed(w, most)
	}
	if sum > most {
		return 0
	}
	if r.known != nil && sum > 0 {
		r.known[w] = sum
	}
	return sum
}

// weighed is weight, for a word that leads to an object.
func (r reader) weighed(w uint64, most int) int {
	o, ok := ObjectAt(r.memory, w)
	switch {
	case !ok:
		return 0
	case o.Kind == Pair, o.Kind == api.HeadTuple:
		return r.parts(o.Words, most)
	case r.light && ofSlot(r.memory, o):
		return 1
	}
	t, ok := r.leaf(o)
	if !ok {
		return 0
	}
	return weigh.Weight(t)
}

// parts returns the weight of a term that has these parts.
func (r reader) parts(words []uint64, most int) int {
	sum := 1
	for _, w := range words {
		part := r.weight(w, most-sum)
		if part == 0 {
			return 0
		}
		sum += part
	}
	return sum
}

// term returns the term that w stands for. It is asked only for words that
// have a weight, so that all in it is as it should be.
func (r reader) term(w uint64) api.Term {
	switch word.Tag(w) {
	case api.TagInt:
		return api.Term{Kind: api.Int, N: word.Load(w)}
	case api.TagAtom:
		return api.Term{Kind: api.Atom, N: word.Load(w)}
	case api.TagPid:
		return api.Term{Kind: api.Pid, N: word.Load(w)}
	case api.TagNil:
		return api.Term{Kind: api.Nil}
	}
	o, _ := ObjectAt(r.memory, w)
	switch o.Kind {
	case Pair:
		return api.Term{Kind: api.Cons, Args: r.terms(o.Words)}
	case api.HeadTuple:
		return api.Term{Kind: api.Tuple, Args: r.terms(o.Words)}
	}
	t, _ := r.leaf(o)
	// The bytes of a slot are the caller's.
	t.Bytes = strings.Clone(t.Bytes)
	return t
}

func (r reader) terms(words []uint64) []api.Term {
	made := make([]api.Term, len(words))
	for i, w := range words {
		made[i] = r.term(w)
	}
	return made
}

// leaf returns the term of an object that holds no others, if its bytes are
// to be had.
func (r reader) leaf(o Object) (api.Term, bool) {
	switch o.Kind {
	case api.HeadBig:
		return big(o.Words), true
	case api.HeadFloat:
		return api.Term{Kind: api.Float, Bits: o.Words[0]}, true
	}
	text, ok := r.text(o)
	return api.Term{Kind: api.Binary, Bytes: text}, ok
}

func (r reader) text(o Object) (string, bool) {
	switch o.Kind {
	case api.HeadBytes:
		return string(bytesIn(o.Words)[:o.Words[0]]), true
	case api.HeadRefc:
		s, ok := SlotOf(r.slots, o)
		return s.Bytes, ok
	case api.HeadSub:
		from, many := o.Words[1], o.Words[2]
		of, _ := Outline(r.memory, o.Words[0])
		all, ok := r.text(of)
		if !ok {
			return "", false
		}
		return all[from : from+many], true
	}
	return "", false
}
