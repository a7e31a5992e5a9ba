package arena_test

import (
	"testing"

	"beehive/api"
	"beehive/arena"
)

// region is one that has been allocated, whether it still exists or not.
type region struct {
	at, n int
	gone  bool
}

// model is an arena that forgets no region and counts all that it is asked.
type model struct {
	budget  int
	all     []region
	charged int
}

func (m *model) used() int {
	sum := m.charged
	for _, one := range m.all {
		if !one.gone {
			sum += one.n
		}
	}
	return sum
}

func (m *model) regions() int {
	sum := 0
	for _, one := range m.all {
		if !one.gone {
			sum++
		}
	}
	return sum
}

func (m *model) next() int {
	if len(m.all) == 0 {
		return 1
	}
	last := m.all[len(m.all)-1]
	return last.at + last.n + 1
}

func (m *model) room(n int) bool { return m.budget == 0 || m.used()+n <= m.budget }

func (m *model) take(n int) (int, api.Errno) {
	if n < 1 || n > api.MaxBudget {
		return 0, api.ErrArg
	}
	if !m.room(n) {
		return 0, api.ErrRoom
	}
	at := m.next()
	m.all = append(m.all, region{at: at, n: n})
	return at, api.OK
}

func (m *model) give(at int) bool {
	for i, one := range m.all {
		if one.at == at && !one.gone {
			m.all[i].gone = true
			return true
		}
	}
	return false
}

func (m *model) charge(n int) api.Errno {
	if n < 0 || n > api.MaxBudget {
		return api.ErrArg
	}
	if !m.room(n) {
		return api.ErrRoom
	}
	m.charged += n
	return api.OK
}

func (m *model) back(n int) bool {
	if n < 0 || n > m.charged {
		return false
	}
	m.charged -= n
	return true
}

// pair is an arena and what it has to be like.
type pair struct {
	t    *testing.T
	real *arena.Arena
	want model
}

func newPair(t *testing.T, budget int) *pair {
	t.Helper()
	real := arena.New(budget)
	if real == nil {
		t.Fatalf("P11.1: New(%d): nil", budget)
	}
	return &pair{t: t, real: real, want: model{budget: budget}}
}

func (p *pair) take(n int) int {
	p.t.Helper()
	want, wrong := p.want.take(n)
	if at, e := p.real.Take(n); at != want || e != wrong {
		p.t.Fatalf("P11.1: %+v: Take(%d): %d, %d, not %d, %d", p.want, n, at, e, want, wrong)
	}
	p.check()
	return want
}

func (p *pair) give(at int) {
	p.t.Helper()
	want := p.want.give(at)
	if ok := p.real.Give(at); ok != want {
		p.t.Fatalf("P11.1: %+v: Give(%d): %v, not %v", p.want, at, ok, want)
	}
	p.check()
}

func (p *pair) charge(n int) {
	p.t.Helper()
	wrong := p.want.charge(n)
	if e := p.real.Charge(n); e != wrong {
		p.t.Fatalf("P11.1: %+v: Charge(%d): %d, not %d", p.want, n, e, wrong)
	}
	p.check()
}

func (p *pair) back(n int) {
	p.t.Helper()
	want := p.want.back(n)
	if ok := p.real.Back(n); ok != want {
		p.t.Fatalf("P11.1: %+v: Back(%d): %v, not %v", p.want, n, ok, want)
	}
	p.check()
}

// check holds that the arena counts what it has to.
func (p *pair) check() {
	p.t.Helper()
	if got := p.real.Used(); got != p.want.used() {
		p.t.Fatalf("P11.1: Used: %d, not %d: %+v", got, p.want.used(), p.want)
	}
	if got := p.real.Regions(); got != p.want.regions() {
		p.t.Fatalf("P11.1: Regions: %d, not %d: %+v", got, p.want.regions(), p.want)
	}
}

// checkEnd empties the arena, so that each region, each charge and the next
// address has to show, and whatever else a call left behind.
func (p *pair) checkEnd() {
	p.t.Helper()
	p.back(p.want.charged + 1)
	p.back(p.want.charged)
	for _, one := range p.want.all {
		for _, at := range []int{one.at - 1, one.at + 1, one.at + one.n - 1, one.at + one.n, one.at} {
			p.give(at)
		}
	}
	p.give(p.want.next())
	if p.real.Used() != 0 || p.real.Regions() != 0 {
		p.t.Fatalf("P11.1: emptied: %d, %d", p.real.Used(), p.real.Regions())
	}
	p.take(p.want.budget + 1)
	p.take(max(p.want.budget, 1))
}
