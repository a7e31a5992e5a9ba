package collect_test

import (
	"cmp"
	"fmt"
	"math"
	"slices"
	"testing"

	"beehive/api"
	"beehive/collect"
	"beehive/look"
	"beehive/num"
	"beehive/real"
)

// model says what the chapters say of a dump, word by word, and searches all
// of it each time.
type model struct{ d api.Dump }

func (m model) regions() []api.Frag {
	return append([]api.Frag{m.d.Young, m.d.Old}, m.d.Frags...)
}

func lies(r api.Frag, address int) bool {
	return r.At >= 0 && address >= r.At && address-r.At < len(r.Words)
}

// object returns the words of the object that w leads to, its head with them,
// and the kind of the head; -1 if it has none.
func (m model) object(w uint64) ([]uint64, int, bool) {
	address := int(w / 8)
	i := slices.IndexFunc(m.regions(), func(r api.Frag) bool { return lies(r, address) })
	if i < 0 || w%8 != api.TagBox && w%8 != api.TagCons {
		return nil, 0, false
	}
	r := m.regions()[i]
	rest := r.Words[address-r.At:]
	kind, many := -1, uint64(2)
	if w%8 == api.TagBox {
		if rest[0]%8 != api.TagHead || rest[0]/8%8 > api.HeadSub || rest[0]/64 > 1<<20 {
			return nil, 0, false
		}
		kind, many = int(rest[0]/8%8), 1+rest[0]/64
	}
	if many > uint64(len(rest)) {
		return nil, 0, false
	}
	return rest[:many:many], kind, true
}

// leads are where in an object stand the words that lead further.
func leads(words []uint64, kind int) []int {
	var made []int
	for i := range words {
		if kind == -1 || kind == api.HeadTuple && i > 0 || kind == api.HeadSub && i == 1 {
			made = append(made, i)
		}
	}
	return made
}

// weight is the weight of the term that w stands for, a HeadRefc and a part of
// it taken as 1; beyond MaxWeight if there is none.
func (m model) weight(w uint64, left int) int {
	const none = api.MaxWeight + 1
	if left < 1 {
		return none
	}
	load := w / 8
	switch w % 8 {
	case api.TagInt:
		return 1
	case api.TagAtom, api.TagPid, api.TagNil:
		if most := [...]uint64{1: api.MaxAtom, 2: api.MaxPid, 3: 0}[w%8]; load <= most {
			return 1
		}
		return none
	}
	words, kind, ok := m.object(w)
	switch {
	case !ok || load > api.Greatest:
		return none
	case kind == -1 || kind == api.HeadTuple && len(words) <= 9:
		sum := 1
		for _, i := range leads(words, kind) {
			sum += m.weight(words[i], left-sum)
			if sum > left {
				return none
			}
		}
		return sum
	case kind == api.HeadBig && len(words) >= 3 && len(words) <= 6 && words[1] <= 1:
		var x api.Num
		x.Neg = words[1] == 1
		for _, v := range words[2:] {
			x.Mag = append(x.Mag, uint32(v), uint32(v>>32))
		}
		if x.Mag[len(x.Mag)-1] == 0 {
			x.Mag = x.Mag[:len(x.Mag)-1]
		}
		if _, fits := num.Small(x); num.May(x) && !fits {
			return 1 + len(x.Mag)
		}
	case kind == api.HeadFloat && len(words) == 2 && real.May(words[1]):
		return 1
	case kind == api.HeadBytes || kind == api.HeadRefc || kind == api.HeadSub:
		return m.bytes(words, kind)
	}
	return none
}

// bytes is weight, of an object of bytes.
func (m model) bytes(words []uint64, kind int) int {
	many, light, ok := m.length(words, kind)
	if kind == api.HeadSub {
		ok = false
		if len(words) == 4 && words[1]%8 == api.TagBox {
			inner, of, found := m.object(words[1])
			if found && (of == api.HeadBytes || of == api.HeadRefc) {
				all, slot, good := m.length(inner, of)
				from, part := words[2], words[3]
				ok = good && from <= 400 && part <= 400 && int(from+part) <= all
				many, light = int(part), slot
			}
		}
	}
	switch {
	case !ok:
		return api.MaxWeight + 1
	case light:
		return 1
	}
	return 1 + many/8
}

// length is the number of bytes of a HeadBytes or a HeadRefc, and whether a
// slot has them.
func (m model) length(words []uint64, kind int) (int, bool, bool) {
	if kind == api.HeadRefc {
		ok := len(words) == 4 && words[1] <= 1<<30 && words[2] <= 1<<30 && words[3] <= 400
		if !ok {
			return 0, false, false
		}
		return int(words[3]), true, true
	}
	if kind != api.HeadBytes || len(words) < 2 || words[1] > 64 || len(words)-2 != (int(words[1])+7)/8 {
		return 0, false, false
	}
	many := int(words[1])
	ok := many%8 == 0 || words[len(words)-1]>>(8*(many%8)) == 0
	return many, false, ok
}

func (m model) rootsHold() bool {
	for _, w := range m.d.Roots {
		if m.weight(w, api.MaxWeight) > api.MaxWeight {
			return false
		}
	}
	return true
}

func (m model) regionsHold() bool {
	all := m.regions()
	for i, r := range all {
		if len(r.Words) > 0 && (r.At < 0 || r.At > far) {
			return false
		}
		for _, other := range all[:i] {
			if len(r.Words) > 0 && len(other.Words) > 0 && r.At < other.At+len(other.Words) && other.At < r.At+len(r.Words) {
				return false
			}
		}
	}
	many := len(m.d.Young.Words)
	return m.d.Size >= many && m.d.Mark >= 0 && m.d.Mark <= many
}

func (m model) oldHolds() bool {
	d := m.d
	d.Roots, d.Handles = nil, nil
	return look.Why(d, nil) == ""
}

// reached goes over what is reached from some words until nothing is added.
func (m model) reached(from []uint64) []uint64 {
	var made []uint64
	seen := map[uint64]bool{}
	add := func(w uint64) {
		if _, _, ok := m.object(w); ok && !seen[w] {
			seen[w] = true
			made = append(made, w)
		}
	}
	for _, w := range from {
		add(w)
	}
	for i := 0; i < len(made); i++ {
		words, kind, _ := m.object(made[i])
		for _, j := range leads(words, kind) {
			add(words[j])
		}
	}
	return made
}

// promoted are the words of those objects that a minor collection promotes.
func (m model) promoted() []uint64 {
	var first []uint64
	for _, w := range m.reached(m.d.Roots) {
		if address := int(w / 8); lies(m.d.Young, address) && address < m.d.Young.At+m.d.Mark {
			first = append(first, w)
		}
	}
	return slices.DeleteFunc(m.reached(first), func(w uint64) bool { return lies(m.d.Old, int(w/8)) })
}

// size is the number of words of some objects.
func (m model) size(objects []uint64) int {
	sum := 0
	for _, w := range objects {
		words, _, _ := m.object(w)
		sum += len(words)
	}
	return sum
}

func (m model) mayMajor(at int) bool {
	return at >= 1 && at <= far && m.regionsHold() && m.rootsHold()
}

func (m model) mayMinor(at int) bool {
	old := m.d.Old
	return m.mayMajor(at) && m.oldHolds() && old.At >= 0 && old.At <= far &&
		old.At+len(old.Words)+m.size(m.promoted()) <= at
}

// moves are the addresses from which, and to which, objects moved.
type moves struct {
	from, to model
	by       map[uint64]uint64
	back     map[uint64]uint64
}

// follow goes through both dumps at a time, and says what is not the same.
func (m moves) follow(a uint64, b uint64) string {
	words, kind, ok := m.from.object(a)
	if !ok {
		if a != b {
			return fmt.Sprintf("the word %x became %x", a, b)
		}
		return ""
	}
	if now, ok := m.by[a]; ok {
		if now != b {
			return fmt.Sprintf("%x is at %x and at %x", a, now, b)
		}
		return ""
	}
	if was, twice := m.back[b]; twice {
		return fmt.Sprintf("%x and %x are both at %x", was, a, b)
	}
	m.by[a], m.back[b] = b, a
	copies, also, ok := m.to.object(b)
	if !ok || kind != also || a%8 != b%8 || len(words) != len(copies) {
		return fmt.Sprintf("%x became another object at %x", a, b)
	}
	further := leads(words, kind)
	for i := range words {
		if slices.Contains(further, i) {
			if what := m.follow(words[i], copies[i]); what != "" {
				return what
			}
		} else if words[i] != copies[i] {
			return fmt.Sprintf("word %d of %x is another one at %x", i, a, b)
		}
	}
	return ""
}

// walked are the moves from d to got, each root followed.
func walked(d api.Dump, got api.Dump) (moves, string) {
	m := moves{from: model{d}, to: model{got}, by: map[uint64]uint64{}, back: map[uint64]uint64{}}
	if len(d.Roots) != len(got.Roots) {
		return m, "another number of roots"
	}
	for i, w := range d.Roots {
		if what := m.follow(w, got.Roots[i]); what != "" {
			return m, what
		}
	}
	return m, ""
}

// filled holds that the objects fill a region from an address on, each word of
// it once.
func (m moves) filled(objects []uint64, r api.Frag) bool {
	var starts []int
	sizes := map[int]int{}
	for _, w := range objects {
		words, _, _ := m.from.object(w)
		at := int(m.by[w] / 8)
		starts, sizes[at] = append(starts, at), len(words)
	}
	slices.Sort(starts)
	next := r.At
	for _, at := range starts {
		if at != next {
			return false
		}
		next += sizes[at]
	}
	return next == r.At+len(r.Words)
}

// wrong says what is wrong in got, which is d collected.
func wrong(d api.Dump, got api.Dump, at int, minor bool) string {
	m, what := walked(d, got)
	var stays, goes []uint64
	for _, w := range m.from.reached(d.Roots) {
		if minor && lies(d.Old, int(w/8)) {
			stays = append(stays, w)
		} else {
			goes = append(goes, w)
		}
	}
	var promoted []uint64
	old := api.Frag{}
	if minor {
		promoted, old = m.from.promoted(), d.Old
		goes = slices.DeleteFunc(goes, func(w uint64) bool { return slices.Contains(promoted, w) })
	}
	grown := got.Old
	if len(grown.Words) >= len(old.Words) {
		grown = region(got.Old.At+len(old.Words), got.Old.Words[len(old.Words):]...)
	}
	switch {
	case what != "":
		return what
	case got.Young.At != at || got.Size != len(got.Young.Words) || got.Mark != got.Size || len(got.Frags) != 0:
		return "the young region, the size, the mark or the fragments"
	case got.Old.At != old.At || len(got.Old.Words) < len(old.Words) || !slices.Equal(got.Old.Words[:len(old.Words)], old.Words):
		return "the words of the old region"
	case slices.ContainsFunc(stays, func(w uint64) bool { return m.by[w] != w }):
		return "an object of the old region moved"
	case !m.filled(promoted, grown):
		return "what is promoted"
	case !m.filled(goes, got.Young):
		return "what is in the young region"
	case !slices.Equal(got.Handles, m.handles(minor)):
		return "the handles"
	}
	return ""
}

// handles are those that are reached where they are now, and those of the old
// region, where it stays.
func (m moves) handles(minor bool) []int {
	var made []int
	for from, to := range m.by {
		if _, kind, _ := m.from.object(from); kind == api.HeadRefc {
			made = append(made, int(to/8))
		}
	}
	for _, address := range m.from.d.Handles {
		if minor && lies(m.from.d.Old, address) {
			made = append(made, address)
		}
	}
	slices.SortFunc(made, cmp.Compare[int])
	return slices.Compact(made)
}

// one of both calls, by its promise.
type call struct {
	promise string
	do      func(d api.Dump, at int) (api.Dump, bool)
	may     func(m model, at int) bool
	minor   bool
}

func calls() []call {
	return []call{
		{"P13.1", collect.Major, model.mayMajor, false},
		{"P13.2", collect.Minor, model.mayMinor, true},
	}
}

// holds calls one of both, holds its answer against the model, and returns it.
func (c call) holds(t *testing.T, what string, d api.Dump, at int) (api.Dump, bool) {
	t.Helper()
	got, ok := c.do(d, at)
	may := c.may(model{d}, at)
	switch {
	case ok != may:
		t.Errorf("%s: %s: at %d: %v, not %v: %v", c.promise, what, at, ok, may, d)
	case !ok && !same(got, api.Dump{}):
		t.Errorf("%s: %s: at %d: false beside %v", c.promise, what, at, got)
	case ok:
		if fault := wrong(d, got, at, c.minor); fault != "" {
			t.Errorf("%s: %s: at %d: %s: %v became %v", c.promise, what, at, fault, d, got)
		}
	}
	return got, ok
}

// does holds that the call collects d at the address.
func (c call) does(t *testing.T, what string, d api.Dump, at int) api.Dump {
	t.Helper()
	got, ok := c.holds(t, what, d, at)
	if !ok {
		t.Errorf("%s: %s: at %d: false", c.promise, what, at)
	}
	return got
}

// fails holds that the call does not collect d at the address.
func (c call) fails(t *testing.T, what string, d api.Dump, at int) {
	t.Helper()
	if got, ok := c.holds(t, what, d, at); ok {
		t.Errorf("%s: %s: at %d: %v", c.promise, what, at, got)
	}
}

func major() call { return calls()[0] }
func minor() call { return calls()[1] }

// outside are addresses at which nothing may begin.
func outside() []int {
	return []int{0, -1, -2, -far, math.MinInt, far + 1, far + 2, 1 << 60, math.MaxInt}
}
