package look_test

import (
	"math/rand"
	"slices"
	"testing"

	"beehive/api"
	"beehive/look"
)

// maker makes dumps at random: objects in regions, mostly of those that were
// made before.
type maker struct {
	*rand.Rand
	d     api.Dump
	slots []api.Slot
	// leads are the words that lead to objects, bytes those to bytes, refcs
	// the addresses of refcs.
	leads, bytes []uint64
	refcs        []int
}

func newMaker(seed int64) *maker {
	m := &maker{Rand: rand.New(rand.NewSource(seed))}
	for range 1 + m.Intn(3) {
		m.slots = append(m.slots, api.Slot{Stamp: m.Intn(4), Count: m.Intn(4), Bytes: xs(m.Intn(80))})
	}
	old := m.filled(10 + m.Intn(3))
	// What the old region holds leads to itself, for it was made first.
	young := m.filled(old.At + len(old.Words) + m.Intn(3))
	at := young.At + len(young.Words) + m.Intn(3)
	m.d = api.Dump{Young: young, Old: old, Size: len(young.Words) + m.Intn(3), Mark: m.Intn(len(young.Words) + 1)}
	for range m.Intn(4) {
		r := m.filled(at)
		m.d.Frags = append(m.d.Frags, r)
		at += len(r.Words) + m.Intn(3)
	}
	for range m.Intn(6) {
		m.d.Roots = append(m.d.Roots, m.plain())
	}
	m.d.Handles = slices.Clone(m.refcs)
	m.Shuffle(len(m.d.Handles), func(i, j int) {
		m.d.Handles[i], m.d.Handles[j] = m.d.Handles[j], m.d.Handles[i]
	})
	return m
}

// filled is a region of a few objects, from an address on.
func (m *maker) filled(at int) api.Frag {
	r := api.Frag{At: at}
	for range m.Intn(7) {
		next := at + len(r.Words)
		words, w := m.object(next)
		r.Words = append(r.Words, words...)
		m.leads = append(m.leads, w)
	}
	return r
}

func (m *maker) plain() uint64 {
	switch m.Intn(8) {
	case 0:
		return small(m.Intn(9) - 4)
	case 1:
		return mk(api.TagAtom, m.Intn(256))
	case 2:
		return mk(api.TagPid, m.Intn(64))
	}
	if len(m.leads) == 0 {
		return empty
	}
	return m.leads[m.Intn(len(m.leads))]
}

// object returns the words of an object at an address, and the word that
// leads to it.
func (m *maker) object(at int) ([]uint64, uint64) {
	switch m.Intn(7) {
	case 0:
		size := m.Intn(4)
		words := []uint64{head(api.HeadTuple, size)}
		for range size {
			words = append(words, m.plain())
		}
		return words, box(at)
	case 1:
		return bigObject(api.Num{Neg: m.Intn(2) == 0, Mag: []uint32{m.Uint32(), 1 << 30, 1 + uint32(m.Intn(3))}}), box(at)
	case 2:
		return []uint64{head(api.HeadFloat, 1), m.Uint64() >> 2}, box(at)
	case 3:
		m.bytes = append(m.bytes, box(at))
		return bytesObject(xs(m.Intn(20))), box(at)
	case 4:
		if slot := m.Intn(len(m.slots)); m.slots[slot].Count > 0 {
			m.bytes = append(m.bytes, box(at))
			m.refcs = append(m.refcs, at)
			s := m.slots[slot]
			return []uint64{head(api.HeadRefc, 3), uint64(slot), uint64(s.Stamp), uint64(len(s.Bytes))}, box(at)
		}
	case 5:
		if len(m.bytes) > 0 {
			return []uint64{head(api.HeadSub, 3), m.bytes[m.Intn(len(m.bytes))], uint64(m.Intn(3)), uint64(m.Intn(3))}, box(at)
		}
	}
	return []uint64{m.plain(), m.plain()}, cons(at)
}

// any is a word, or what looks like one.
func (m *maker) any() uint64 {
	switch m.Intn(10) {
	case 0:
		return wrongs()[m.Intn(len(wrongs()))]
	case 1:
		return head(m.Intn(7), m.Intn(5))
	case 2, 3:
		return box(m.Intn(60))
	case 4:
		return cons(m.Intn(60))
	case 5:
		return uint64(m.Intn(70))
	case 6:
		return m.Uint64()
	}
	return m.plain()
}

// region returns one of those with words, if there is one.
func (m *maker) region() *api.Frag {
	all := []*api.Frag{&m.d.Young, &m.d.Old}
	for i := range m.d.Frags {
		all = append(all, &m.d.Frags[i])
	}
	return all[m.Intn(len(all))]
}

// spoil changes something.
func (m *maker) spoil() {
	switch m.Intn(12) {
	case 0, 1, 2, 3:
		if r := m.region(); len(r.Words) > 0 {
			r.Words[m.Intn(len(r.Words))] = m.any()
		}
	case 4:
		m.d.Old.Words = append(m.d.Old.Words[:len(m.d.Old.Words):len(m.d.Old.Words)], m.any())
	case 5:
		m.region().At += m.Intn(7) - 3
	case 6:
		m.d.Size, m.d.Mark = m.d.Size+m.Intn(5)-2, m.d.Mark+m.Intn(3)-1
	case 7:
		m.d.Roots = append(m.d.Roots, m.any())
	case 8:
		m.d.Handles = append(m.d.Handles, m.Intn(60))
	case 9:
		if n := len(m.d.Handles); n > 0 {
			m.d.Handles = slices.Delete(m.d.Handles, n-1, n)
		}
	case 10:
		s := &m.slots[m.Intn(len(m.slots))]
		s.Stamp, s.Count = s.Stamp+m.Intn(2), s.Count*m.Intn(2)
	default:
		if r := m.region(); len(r.Words) > 0 {
			r.Words = r.Words[:len(r.Words)-1]
		}
	}
}

// Of dumps at random, good ones and spoilt ones, all is what the model says.
func TestAtRandom(t *testing.T) {
	named := map[string]int{}
	read := map[bool]int{}
	for seed := range int64(30000) {
		r := newMaker(seed)
		for range r.Intn(4) {
			r.spoil()
		}
		m := model{r.d, r.slots}
		why := look.Why(r.d, r.slots)
		if want := m.why(); why != want {
			t.Fatalf("P12.2: seed %d: %q, not %q: %v", seed, why, want, r.d)
		}
		named[why]++
		if live := look.Live(r.d); why != "regions" && why != "roots" && live != m.live() {
			t.Fatalf("P12.3: seed %d: Live: %d, not %d: %v", seed, live, m.live(), r.d)
		}
		if handles := look.Handles(r.d); why != "regions" && why != "roots" && !slices.Equal(handles, m.handles()) {
			t.Fatalf("P12.3: seed %d: Handles: %v, not %v: %v", seed, handles, m.handles(), r.d)
		}
		for range 8 {
			w := r.any()
			got, ok := look.Read(r.d, r.slots, w)
			if want, good := m.read(w); ok != good || !alike(got, want) {
				t.Fatalf("P12.1: seed %d: Read of %x: %v, %v, not %v: %v", seed, w, got, ok, want, r.d)
			}
			read[ok]++
		}
	}
	for _, name := range []string{"", "regions", "roots", "old", "handles"} {
		if named[name] < 500 {
			t.Errorf("P12.2: %q is named only %d times", name, named[name])
		}
	}
	if read[true] < 5000 || read[false] < 5000 {
		t.Errorf("P12.1: few words are read, or all: %v", read)
	}
}

// Memory of any words, with regions over each other, is read as the model says.
func TestReadOfAnyWords(t *testing.T) {
	slots := []api.Slot{{Stamp: 1, Count: 1, Bytes: "a"}, {Stamp: 0, Count: 1, Bytes: ""}, {}}
	read := map[bool]int{}
	for seed := range int64(5000) {
		r := &maker{Rand: rand.New(rand.NewSource(seed)), slots: slots}
		fill := func() api.Frag {
			made := api.Frag{At: r.Intn(40) - 4}
			for range r.Intn(16) {
				switch r.Intn(4) {
				case 0:
					made.Words = append(made.Words, uint64(r.Intn(3)))
				case 1:
					made.Words = append(made.Words, []uint64{empty, small(1), box(r.Intn(45)), cons(r.Intn(45))}[r.Intn(4)])
				case 2:
					made.Words = append(made.Words, head(r.Intn(6), r.Intn(4)))
				default:
					made.Words = append(made.Words, r.any())
				}
			}
			return made
		}
		r.d = api.Dump{Young: fill(), Old: fill()}
		for range r.Intn(3) {
			r.d.Frags = append(r.d.Frags, fill())
		}
		m := model{r.d, slots}
		for address := range 50 {
			for _, w := range []uint64{box(address), cons(address)} {
				got, ok := look.Read(r.d, slots, w)
				if want, good := m.read(w); ok != good || !alike(got, want) {
					t.Fatalf("P12.1: seed %d: Read of %x: %v, %v, not %v: %v", seed, w, got, ok, want, r.d)
				}
				read[ok]++
				r.d.Roots = append(r.d.Roots, w)
			}
		}
		look.Live(r.d)
		look.Handles(r.d)
		r.d.Roots = r.d.Roots[:seed%7]
		if why, want := look.Why(r.d, slots), (model{r.d, slots}).why(); why != want {
			t.Fatalf("P12.2: seed %d: %q, not %q: %v", seed, why, want, r.d)
		}
	}
	if read[true] < 5000 || read[false] < 5000 {
		t.Errorf("P12.1: few words are read, or all: %v", read)
	}
}
