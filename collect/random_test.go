package collect_test

import (
	"math/rand"
	"slices"
	"testing"

	"beehive/api"
	"beehive/look"
)

// maker makes dumps at random: objects in regions, mostly of those that were
// made before.
type maker struct {
	*rand.Rand
	d     api.Dump
	slots []api.Slot
	// leads are the words that lead to objects, texts those to bytes, refcs
	// the addresses of refcs.
	leads, texts []uint64
	refcs        []int
}

func newMaker(seed int64) *maker {
	m := &maker{Rand: rand.New(rand.NewSource(seed))}
	for range 1 + m.Intn(3) {
		m.slots = append(m.slots, api.Slot{Stamp: m.Intn(4), Count: 1 + m.Intn(4), Bytes: xs(m.Intn(80))})
	}
	// What the old region holds leads to itself, for it is filled first.
	next := m.Intn(4)
	old := m.filled(next, 7*m.Intn(2))
	next += len(old.Words) + m.Intn(3)
	m.d = api.Dump{Old: old}
	// The others are filled in any order.
	many := m.Intn(5)
	first := m.Intn(many + 1)
	for i := range many + 1 {
		r := m.filled(next, 8)
		next += len(r.Words) + m.Intn(3)
		if i == first {
			m.d.Young = r
		} else {
			m.d.Frags = append(m.d.Frags, r)
		}
	}
	m.d.Size, m.d.Mark = len(m.d.Young.Words)+m.Intn(3), m.Intn(len(m.d.Young.Words)+1)
	m.overlap(next)
	for range m.Intn(7) {
		m.d.Roots = append(m.d.Roots, m.plain())
	}
	m.d.Handles = slices.Clone(m.refcs)
	m.Shuffle(len(m.d.Handles), func(i, j int) {
		m.d.Handles[i], m.d.Handles[j] = m.d.Handles[j], m.d.Handles[i]
	})
	return m
}

// filled is a region of a few objects, from an address on.
func (m *maker) filled(at int, most int) api.Frag {
	r := api.Frag{At: at}
	for range m.Intn(most + 1) {
		words, w := m.object(at + len(r.Words))
		r.Words = append(r.Words, words...)
		m.leads = append(m.leads, w)
	}
	return r
}

// overlap finds objects that begin in the midst of others.
func (m *maker) overlap(end int) {
	for address := range end {
		for _, w := range []uint64{cons(address), box(address)} {
			found := model{with(m.d, w)}
			_, kind, ok := found.object(w)
			if !ok || kind == api.HeadRefc || slices.Contains(m.leads, w) || !found.rootsHold() {
				continue
			}
			// Refcs in the midst of others would denote no slot.
			inner := found.reached([]uint64{w})
			if !slices.ContainsFunc(inner, func(w uint64) bool {
				_, kind, _ := found.object(w)
				return kind == api.HeadRefc && !slices.Contains(m.refcs, int(w/8))
			}) && !lies(m.d.Old, address) {
				m.leads = append(m.leads, w)
			}
		}
	}
}

func (m *maker) plain() uint64 {
	switch m.Intn(8) {
	case 0:
		return small(m.Intn(9) - 4)
	case 1:
		return atom(m.Intn(256))
	case 2:
		return pid(m.Intn(64))
	}
	if len(m.leads) == 0 {
		return empty
	}
	return m.leads[m.Intn(len(m.leads))]
}

// raw is what may stand in a float, in limbs or in bytes: often what looks like
// a word.
func (m *maker) raw() uint64 {
	switch m.Intn(5) {
	case 0:
		return forward(m.Intn(60))
	case 1:
		return head(m.Intn(6), m.Intn(4))
	case 2:
		return m.plain()
	case 3:
		return m.Uint64() >> 2
	}
	return uint64(m.Intn(20))
}

// object returns the words of an object at an address, and the word that
// leads to it.
func (m *maker) object(at int) ([]uint64, uint64) {
	switch m.Intn(8) {
	case 0:
		words := []uint64{head(api.HeadTuple, m.Intn(5))}
		for range words[0] >> 6 {
			words = append(words, m.plain())
		}
		return words, box(at)
	case 1:
		words := []uint64{head(api.HeadBig, 2+m.Intn(4)), uint64(m.Intn(2))}
		for len(words) < int(words[0]>>6) {
			words = append(words, m.raw())
		}
		return append(words, m.raw()|1<<62), box(at)
	case 2:
		return []uint64{head(api.HeadFloat, 1), m.raw()}, box(at)
	case 3:
		m.texts = append(m.texts, box(at))
		words := []uint64{head(api.HeadBytes, 1+m.Intn(4)), 0}
		for range words[0]>>6 - 1 {
			words = append(words, m.raw())
		}
		words[1] = uint64(8 * (len(words) - 2))
		return words, box(at)
	case 4:
		slot := m.Intn(len(m.slots))
		m.texts, m.refcs = append(m.texts, box(at)), append(m.refcs, at)
		return refcObject(slot, m.slots[slot].Stamp, len(m.slots[slot].Bytes)), box(at)
	case 5:
		if len(m.texts) > 0 {
			return subObject(int(m.texts[m.Intn(len(m.texts))]>>3), 0, 0), box(at)
		}
	}
	return []uint64{m.plain(), m.plain()}, cons(at)
}

// spoil changes something.
func (m *maker) spoil() {
	regions := []*api.Frag{&m.d.Young, &m.d.Old}
	for i := range m.d.Frags {
		regions = append(regions, &m.d.Frags[i])
	}
	r := regions[m.Intn(len(regions))]
	switch m.Intn(10) {
	case 0, 1, 2, 3:
		if len(r.Words) > 0 {
			r.Words[m.Intn(len(r.Words))] = []uint64{m.plain(), m.raw(), box(m.Intn(60)), cons(m.Intn(60)), m.Uint64()}[m.Intn(5)]
		}
	case 4:
		r.At += m.Intn(7) - 3
	case 5:
		m.d.Size, m.d.Mark = m.d.Size+m.Intn(5)-2, m.d.Mark+m.Intn(3)-1
	case 6:
		m.d.Roots = append(m.d.Roots, []uint64{m.raw(), box(m.Intn(60)), cons(m.Intn(60))}[m.Intn(3)])
	case 7:
		m.d.Handles = append(m.d.Handles, m.Intn(60))
	case 8:
		m.d.Handles = m.d.Handles[:m.Intn(len(m.d.Handles)+1)]
	default:
		if len(r.Words) > 0 {
			r.Words = r.Words[:len(r.Words)-1]
		}
	}
}

// place is an address to collect to: anywhere, often close to the end of the
// old region as it will be.
func (m *maker) place() int {
	end := m.d.Old.At + len(m.d.Old.Words)
	switch m.Intn(5) {
	case 0:
		return m.Intn(100)
	case 1:
		return end + m.Intn(20)
	case 2:
		return far + 1 - m.Intn(3)
	}
	if c := (model{m.d}); c.regionsHold() && c.rootsHold() {
		end += c.size(c.promoted())
	}
	return end + m.Intn(4) - 1
}

// strays reports whether what is reached in the old region leads out of it,
// though no word that look goes through does: such a dump can't be kept.
func strays(d api.Dump) bool {
	m := model{d}
	return slices.ContainsFunc(m.reached(d.Roots), func(w uint64) bool {
		words, kind, _ := m.object(w)
		return lies(d.Old, int(w/8)) && slices.ContainsFunc(leads(words, kind), func(i int) bool {
			_, _, ok := m.object(words[i])
			return ok && !lies(d.Old, int(words[i]/8))
		})
	})
}

// cut reports whether the old region ends within an object: what is put behind
// it looks like a part of that.
func cut(old api.Frag) bool {
	i := 0
	for i < len(old.Words) {
		w := old.Words[i]
		if kind := w / 8 % 8; w%8 == api.TagHead && kind > api.HeadTuple && kind <= api.HeadSub && w/64 <= 1<<20 {
			i += int(w / 64)
		}
		i++
	}
	return i > len(old.Words)
}

// Of dumps at random, good ones and spoilt ones, all is as the model says.
func TestAtRandom(t *testing.T) {
	done := map[string]map[bool]int{}
	named := map[string]int{}
	for seed := range int64(20000) {
		m := newMaker(seed)
		for range max(0, m.Intn(5)-1) {
			m.spoil()
		}
		why := look.Why(m.d, m.slots)
		named[why]++
		at := m.place()
		for _, c := range calls() {
			if c.minor && why != "regions" && strays(m.d) {
				c.do(m.d, at)
				continue
			}
			got, ok := c.holds(t, "at random", m.d, at)
			if done[c.promise] == nil {
				done[c.promise] = map[bool]int{}
			}
			done[c.promise][ok]++
			if !ok {
				continue
			}
			after := look.Why(got, m.slots)
			if c.minor && cut(m.d.Old) {
				after = ""
			}
			if why == "" && after != "" || why != "roots" && !alike(m.d, got, m.slots) {
				t.Errorf("%s: %q of %v, which was %v", c.promise, after, got, m.d)
			}
		}
		if t.Failed() {
			t.Fatalf("seed %d", seed)
		}
	}
	for promise, times := range done {
		if times[true] < 4000 || times[false] < 2000 {
			t.Errorf("%s: few are collected, or all: %v", promise, times)
		}
	}
	for _, name := range []string{"", "regions", "roots", "old", "handles"} {
		if named[name] < 100 {
			t.Errorf("%q is named only %d times: %v", name, named[name], named)
		}
	}
}

// Several collections, one behind the other, keep all that the roots stand for,
// while a process makes more, and forgets some.
func TestRows(t *testing.T) {
	minors, grown := 0, 0
	for seed := range int64(2000) {
		m := newMaker(seed)
		if m.d.Old.Words = nil; look.Why(m.d, m.slots) != "" {
			// Something leads to where the old region was.
			continue
		}
		first, d := m.d, m.d
		for range 12 {
			c := calls()[min(1, m.Intn(4))]
			at := 1 + d.Old.At + len(d.Old.Words) + len(d.Young.Words) + m.Intn(200)
			for _, r := range d.Frags {
				at += len(r.Words)
			}
			got := c.does(t, "a row", d, at)
			kept := with(got, got.Roots[:len(first.Roots)]...)
			if why := look.Why(got, m.slots); why != "" || !alike(d, got, m.slots) || !alike(first, kept, m.slots) {
				t.Fatalf("%s: seed %d: %q of %v, which was %v", c.promise, seed, why, got, d)
			}
			if c.minor {
				minors++
				grown += len(got.Old.Words) - len(d.Old.Words)
			}
			d = m.goneOn(got, first.Roots)
		}
	}
	if minors < 5000 || grown < 5000 {
		t.Errorf("P13.2: %d minor ones promoted %d words", minors, grown)
	}
}

// goneOn is d with a few objects more, in the young region and in a fragment,
// and roots that lead to them; it may have lost roots, but for as many as stay.
func (m *maker) goneOn(d api.Dump, stay []uint64) api.Dump {
	d.Roots = slices.Clone(d.Roots[:len(stay)+m.Intn(len(d.Roots)-len(stay)+1)])
	m.leads = d.Roots
	var frag api.Frag
	frag.At = d.Young.At + len(d.Young.Words) + 40
	d.Young.Words = slices.Clone(d.Young.Words)
	for range m.Intn(6) {
		r := &d.Young
		if m.Intn(3) == 0 {
			r = &frag
		}
		at := r.At + len(r.Words)
		words := []uint64{m.plain(), m.plain()}
		w := cons(at)
		if m.Intn(4) == 0 {
			s := m.Intn(len(m.slots))
			words, w = refcObject(s, m.slots[s].Stamp, len(m.slots[s].Bytes)), box(at)
			d.Handles = append(d.Handles, at)
		}
		r.Words = append(r.Words, words...)
		d.Frags = []api.Frag{frag}
		d.Size = len(d.Young.Words)
		if (model{with(d, w)}).rootsHold() {
			d.Roots = append(d.Roots, w)
			m.leads = d.Roots
		}
	}
	return d
}
