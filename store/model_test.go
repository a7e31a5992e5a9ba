package store_test

import (
	"math"
	"slices"
	"testing"

	"beehive/api"
	"beehive/store"
)

// model is a store that searches for all that it is asked.
type model struct{ slots []api.Slot }

func (m *model) put(b string) (int, int, api.Errno) {
	if len(b) > api.MaxBytes {
		return 0, 0, api.ErrArg
	}
	at := 0
	for at < len(m.slots) && m.slots[at].Count > 0 {
		at++
	}
	if at == len(m.slots) {
		m.slots = append(m.slots, api.Slot{})
	}
	m.slots[at] = api.Slot{Stamp: m.slots[at].Stamp + 1, Count: 1, Bytes: b}
	return at, m.slots[at].Stamp, api.OK
}

func (m *model) wrong(slot int, stamp int) api.Errno {
	for i, one := range m.slots {
		switch {
		case i != slot || one.Count == 0:
		case one.Stamp != stamp:
			return api.ErrStale
		default:
			return api.OK
		}
	}
	return api.ErrNone
}

func (m *model) get(slot int, stamp int) (string, api.Errno) {
	if wrong := m.wrong(slot, stamp); wrong != api.OK {
		return "", wrong
	}
	return m.slots[slot].Bytes, api.OK
}

func (m *model) count(slot int, stamp int, by int) api.Errno {
	if wrong := m.wrong(slot, stamp); wrong != api.OK {
		return wrong
	}
	m.slots[slot].Count += by
	if m.slots[slot].Count == 0 {
		m.slots[slot].Bytes = ""
	}
	return api.OK
}

func (m *model) bytes() int {
	sum := 0
	for _, one := range m.slots {
		sum += len(one.Bytes)
	}
	return sum
}

func (m *model) used() int {
	sum := 0
	for _, one := range m.slots {
		if one.Count > 0 {
			sum++
		}
	}
	return sum
}

// pair is a store and what it has to be like.
type pair struct {
	t    *testing.T
	real *store.Store
	want model
}

func newPair(t *testing.T) *pair { return &pair{t: t, real: store.New()} }

func (p *pair) put(b string) (int, int) {
	p.t.Helper()
	slot, stamp, wrong := p.want.put(b)
	if i, n, e := p.real.Put(b); i != slot || n != stamp || e != wrong {
		p.t.Fatalf("P10.1: Put of %d bytes: %d, %d, %d, not %d, %d, %d", len(b), i, n, e, slot, stamp, wrong)
	}
	return slot, stamp
}

func (p *pair) get(slot int, stamp int) {
	p.t.Helper()
	want, wrong := p.want.get(slot, stamp)
	if b, e := p.real.Get(slot, stamp); b != want || e != wrong {
		p.t.Fatalf("P10.1: Get(%d, %d): %q, %d, not %q, %d", slot, stamp, b, e, want, wrong)
	}
}

func (p *pair) inc(slot int, stamp int) {
	p.t.Helper()
	wrong := p.want.count(slot, stamp, 1)
	if e := p.real.Inc(slot, stamp); e != wrong {
		p.t.Fatalf("P10.1: Inc(%d, %d): %d, not %d", slot, stamp, e, wrong)
	}
}

func (p *pair) dec(slot int, stamp int) {
	p.t.Helper()
	wrong := p.want.count(slot, stamp, -1)
	if e := p.real.Dec(slot, stamp); e != wrong {
		p.t.Fatalf("P10.1: Dec(%d, %d): %d, not %d", slot, stamp, e, wrong)
	}
}

// check holds that the whole store is as it has to be.
func (p *pair) check() {
	p.t.Helper()
	if got := p.real.Slots(); !slices.Equal(got, p.want.slots) {
		p.t.Fatalf("P10.1: Slots: %v, not %v", got, p.want.slots)
	}
	if got := p.real.Bytes(); got != p.want.bytes() {
		p.t.Fatalf("P10.1: Bytes: %d, not %d", got, p.want.bytes())
	}
	if got := p.real.Len(); got != p.want.used() {
		p.t.Fatalf("P10.1: Len: %d, not %d", got, p.want.used())
	}
}

// checkGets holds that Get tells each slot from those around it, with each
// stamp from those around it.
func (p *pair) checkGets() {
	p.t.Helper()
	for slot := -1; slot <= len(p.want.slots); slot++ {
		stamps := []int{math.MinInt, -1, 0, 1, math.MaxInt}
		if slot >= 0 && slot < len(p.want.slots) {
			stamp := p.want.slots[slot].Stamp
			stamps = append(stamps, -stamp, stamp-1, stamp, stamp+1)
		}
		for _, stamp := range stamps {
			p.get(slot, stamp)
		}
	}
}
