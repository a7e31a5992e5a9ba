package look_test

import (
	"cmp"
	"math"
	"slices"

	"beehive/api"
	"beehive/term"
)

// model says what the chapter says of a dump, word by word, and searches all
// of it each time.
type model struct {
	d     api.Dump
	slots []api.Slot
}

func (m model) regions() []api.Frag {
	return append([]api.Frag{m.d.Young, m.d.Old}, m.d.Frags...)
}

// found returns the region in which an address lies, and its offset there.
func (m model) found(address int) (api.Frag, int, bool) {
	for _, r := range m.regions() {
		for i := range r.Words {
			if r.At >= 0 && i <= math.MaxInt-r.At && r.At+i == address {
				return r, i, true
			}
		}
	}
	return api.Frag{}, 0, false
}

func (m model) plain(w uint64) bool {
	load := w / 8
	switch w % 8 {
	case api.TagInt, api.TagBox, api.TagCons:
		return w%8 == api.TagInt || load < 1<<60
	case api.TagAtom:
		return load < 256
	case api.TagPid:
		return load < 64
	case api.TagNil:
		return load == 0
	}
	return false
}

// object returns the words of the object that w leads to, its head with them,
// and the kind of the head; -1 if it has none.
func (m model) object(w uint64) ([]uint64, int, bool) {
	r, at, ok := m.found(int(w / 8))
	if !ok || w%8 != api.TagBox && w%8 != api.TagCons {
		return nil, 0, false
	}
	rest := r.Words[at:]
	kind, many := -1, uint64(2)
	if w%8 == api.TagBox {
		if rest[0]%8 != api.TagHead || rest[0]/8%8 > api.HeadSub || rest[0]/64 > 1<<20 {
			return nil, 0, false
		}
		kind, many = int(rest[0]/8%8), 1+rest[0]/64
	}
	if many > uint64(len(rest)) {
		return nil, 0, false
	}
	return rest[:many:many], kind, true
}

// read is Read.
func (m model) read(w uint64) (api.Term, bool) {
	left := api.MaxWeight + 1
	made, ok := m.term(w, &left)
	if !ok || !term.May(made) {
		return api.Term{}, false
	}
	return made, true
}

func (m model) term(w uint64, left *int) (api.Term, bool) {
	*left--
	if *left < 0 || !m.plain(w) {
		return api.Term{}, false
	}
	switch w % 8 {
	case api.TagInt:
		return api.Term{Kind: api.Int, N: int(int64(w) >> 3)}, true
	case api.TagAtom:
		return api.Term{Kind: api.Atom, N: int(w / 8)}, true
	case api.TagPid:
		return api.Term{Kind: api.Pid, N: int(w / 8)}, true
	case api.TagNil:
		return api.Term{Kind: api.Nil}, true
	}
	words, kind, ok := m.object(w)
	switch {
	case !ok:
		return api.Term{}, false
	case kind == -1:
		return m.whole(api.Cons, words, left)
	case kind == api.HeadTuple:
		return m.whole(api.Tuple, words[1:], left)
	case kind == api.HeadBig:
		return m.big(words[1:])
	case kind == api.HeadFloat:
		return api.Term{Kind: api.Float, Bits: words[len(words)-1]}, len(words) == 2
	}
	text, ok := m.text(words, kind)
	return api.Term{Kind: api.Binary, Bytes: text}, ok
}

func (m model) whole(kind int, words []uint64, left *int) (api.Term, bool) {
	made := api.Term{Kind: kind}
	for _, w := range words {
		part, ok := m.term(w, left)
		if !ok {
			return api.Term{}, false
		}
		made.Args = append(made.Args, part)
	}
	return made, true
}

func (m model) big(words []uint64) (api.Term, bool) {
	if len(words) < 2 || words[0] > 1 {
		return api.Term{}, false
	}
	made := api.Term{Kind: api.Big}
	made.Num.Neg = words[0] == 1
	for _, w := range words[1:] {
		made.Num.Mag = append(made.Num.Mag, uint32(w%(1<<32)), uint32(w/(1<<32)))
	}
	if n := len(made.Num.Mag); made.Num.Mag[n-1] == 0 {
		made.Num.Mag = made.Num.Mag[:n-1]
	}
	return made, true
}

func (m model) text(words []uint64, kind int) (string, bool) {
	switch {
	case kind == api.HeadBytes && len(words) >= 2 && words[1] <= 64:
		var made []byte
		for i := range 8 * (len(words) - 2) {
			made = append(made, byte(words[2+i/8]>>(i%8*8)))
		}
		many := int(words[1])
		if (many+7)/8 != len(words)-2 || slices.ContainsFunc(made[many:], func(b byte) bool { return b != 0 }) {
			return "", false
		}
		return string(made[:many]), true
	case kind == api.HeadRefc && m.denotes(words):
		return m.slots[words[1]].Bytes, true
	case kind == api.HeadSub && len(words) == 4 && words[1]%8 == api.TagBox:
		inner, of, ok := m.object(words[1])
		if !ok || of != api.HeadBytes && of != api.HeadRefc {
			return "", false
		}
		all, ok := m.text(inner, of)
		from, many := int(words[2]), int(words[3])
		if !ok || from < 0 || many < 0 || from > len(all) || many > len(all) || from+many > len(all) {
			return "", false
		}
		return all[from : from+many], true
	}
	return "", false
}

// denotes reports whether the words are a HeadRefc and its slot is the one.
func (m model) denotes(words []uint64) bool {
	if len(words) != 4 || words[1] > 1<<30 || words[2] > 1<<30 || words[3] > 400 || int(words[1]) >= len(m.slots) {
		return false
	}
	s := m.slots[words[1]]
	return s.Count != 0 && s.Stamp == int(words[2]) && len(s.Bytes) == int(words[3])
}

// why is Why.
func (m model) why() string {
	switch {
	case !m.regionsHold():
		return "regions"
	case slices.ContainsFunc(m.d.Roots, func(w uint64) bool { _, ok := m.read(w); return !ok }):
		return "roots"
	case !m.oldHolds():
		return "old"
	case !m.handlesHold():
		return "handles"
	}
	return ""
}

func (m model) regionsHold() bool {
	all := m.regions()
	for i, r := range all {
		if len(r.Words) > 0 && (r.At < 0 || r.At > 1<<50) {
			return false
		}
		for _, other := range all[:i] {
			for j := range r.Words {
				if address := r.At + j; address >= other.At && address < other.At+len(other.Words) {
					return false
				}
			}
		}
	}
	many := len(m.d.Young.Words)
	return m.d.Size >= many && m.d.Mark >= 0 && m.d.Mark <= many
}

func (m model) oldHolds() bool {
	old := m.d.Old
	remain := make([]bool, len(old.Words))
	for i := 0; i < len(old.Words); i++ {
		remain[i] = true
		w := old.Words[i]
		kind, size := w/8%8, w/64
		if w%8 != api.TagHead || kind > api.HeadSub || size > 1<<20 || kind == api.HeadTuple {
			continue
		}
		if kind == api.HeadSub && size > 0 && i+1 < len(old.Words) {
			remain[i+1] = true
		}
		i += int(size)
	}
	for i, w := range old.Words {
		if remain[i] && (w%8 == api.TagBox || w%8 == api.TagCons) {
			address := int(w / 8)
			if address < old.At || address >= old.At+len(old.Words) {
				return false
			}
		}
	}
	return true
}

func (m model) handlesHold() bool {
	for i, address := range m.d.Handles {
		if _, _, ok := m.found(address); !ok || slices.Contains(m.d.Handles[:i], address) {
			return false
		}
		words, kind, ok := m.object(box(address))
		if !ok || kind != api.HeadRefc || !m.denotes(words) {
			return false
		}
	}
	for _, address := range m.handles() {
		if !slices.Contains(m.d.Handles, address) {
			return false
		}
	}
	return true
}

// reached goes over what is reached until nothing is added.
func (m model) reached() []uint64 {
	var made []uint64
	add := func(w uint64) bool {
		_, _, ok := m.object(w)
		if !ok || slices.Contains(made, w) {
			return false
		}
		made = append(made, w)
		return true
	}
	for _, w := range m.d.Roots {
		add(w)
	}
	for again := true; again; {
		again = false
		for _, w := range slices.Clone(made) {
			words, kind, _ := m.object(w)
			switch kind {
			case -1:
			case api.HeadTuple:
				words = words[1:]
			case api.HeadSub:
				words = words[1:2]
			default:
				continue
			}
			for _, inner := range words {
				again = add(inner) || again
			}
		}
	}
	return made
}

// live is Live, of a dump that has its regions and its roots right.
func (m model) live() int {
	sum := 0
	for _, w := range m.reached() {
		words, _, _ := m.object(w)
		sum += len(words)
	}
	return sum
}

// handles is Handles, of such a dump.
func (m model) handles() []int {
	var made []int
	for _, w := range m.reached() {
		if _, kind, _ := m.object(w); kind == api.HeadRefc {
			made = append(made, int(w/8))
		}
	}
	slices.SortFunc(made, cmp.Compare[int])
	return made
}
