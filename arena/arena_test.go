package arena_test

import (
	"math"
	"math/rand"
	"sync"
	"testing"

	"beehive/api"
	"beehive/arena"
)

// far are ints around powers of two, and as far out as an int goes.
func far() []int {
	made := []int{math.MinInt, math.MinInt + 1, math.MaxInt - 1, math.MaxInt, -2, -1, 0, 1, 2}
	for bit := 2; bit < 63; bit++ {
		for by := -1; by <= 1; by++ {
			made = append(made, 1<<bit+by, -1<<bit+by)
		}
	}
	return made
}

// beyond are the numbers of words that are none, from least on upwards.
func beyond(least int) []int {
	var made []int
	for _, n := range far() {
		if n < least || n > api.MaxBudget {
			made = append(made, n)
		}
	}
	return made
}

// Here nothing but the chapter is asked: its example is written out.
func TestExample(t *testing.T) {
	a := arena.New(10)
	for _, x := range []struct {
		n, at int
		wrong api.Errno
	}{
		{4, 1, api.OK},
		{7, 0, api.ErrRoom},
		{6, 6, api.OK},
	} {
		if at, e := a.Take(x.n); at != x.at || e != x.wrong {
			t.Errorf("P11.1: Take(%d): %d, %d, not %d, %d", x.n, at, e, x.at, x.wrong)
		}
	}
}

func TestNew(t *testing.T) {
	for _, budget := range append(far(), 3, 10, 100, api.MaxBudget-2) {
		a := arena.New(budget)
		if may := budget >= 0 && budget <= 1<<24; (a != nil) != may {
			t.Fatalf("P11.1: New(%d): %v", budget, a)
		}
		if a != nil && (a.Used() != 0 || a.Regions() != 0 || a.Give(1) || a.Give(0) || !a.Back(0) || a.Back(1)) {
			t.Errorf("P11.1: New(%d) has something: %d, %d", budget, a.Used(), a.Regions())
		}
	}
}

func TestEachBudget(t *testing.T) {
	budgets := []int{1, 2, 3, 4, 5, 7, 8, 100, 65535, 65536, api.MaxBudget - 1, api.MaxBudget}
	for _, budget := range budgets {
		a := arena.New(budget)
		if at, e := a.Take(budget + 1); at != 0 || e == api.OK {
			t.Errorf("P11.1: New(%d): Take of one more: %d, %d", budget, at, e)
		}
		if at, e := a.Take(budget); at != 1 || e != api.OK {
			t.Errorf("P11.1: New(%d): Take of all: %d, %d", budget, at, e)
		}
		if at, e := a.Take(1); at != 0 || e != api.ErrRoom || a.Charge(1) != api.ErrRoom || a.Charge(0) != api.OK {
			t.Errorf("P11.1: New(%d): Take behind all: %d, %d", budget, at, e)
		}
		if a.Used() != budget || a.Regions() != 1 || !a.Give(1) || a.Used() != 0 || a.Regions() != 0 {
			t.Errorf("P11.1: New(%d): %d, %d", budget, a.Used(), a.Regions())
		}
		if a.Charge(budget+1) == api.OK || a.Charge(budget) != api.OK || a.Charge(1) != api.ErrRoom {
			t.Errorf("P11.1: New(%d): Charge", budget)
		}
		if at, e := a.Take(1); at != 0 || e != api.ErrRoom || a.Used() != budget || a.Regions() != 0 {
			t.Errorf("P11.1: New(%d): Take behind a Charge of all: %d, %d", budget, at, e)
		}
		if a.Back(budget+1) || !a.Back(budget) || a.Back(1) || a.Used() != 0 {
			t.Errorf("P11.1: New(%d): Back", budget)
		}
		if at, e := a.Take(1); at != budget+2 || e != api.OK {
			t.Errorf("P11.1: New(%d): the next address: %d, %d", budget, at, e)
		}
	}
}

func TestNoLimit(t *testing.T) {
	a := arena.New(0)
	const many = 1000
	for i := range many {
		want := 1 + i*(api.MaxBudget+1)
		if at, e := a.Take(api.MaxBudget); at != want || e != api.OK {
			t.Fatalf("P11.1: Take %d: %d, %d, not %d", i, at, e, want)
		}
		if e := a.Charge(api.MaxBudget); e != api.OK {
			t.Fatalf("P11.1: Charge %d: %d", i, e)
		}
		if a.Used() != 2*(i+1)*api.MaxBudget || a.Regions() != i+1 {
			t.Fatalf("P11.1: %d, %d", a.Used(), a.Regions())
		}
	}
	for _, n := range beyond(1) {
		if at, e := a.Take(n); at != 0 || e != api.ErrArg {
			t.Errorf("P11.1: no limit: Take(%d): %d, %d", n, at, e)
		}
	}
	for _, n := range beyond(0) {
		if e := a.Charge(n); e != api.ErrArg {
			t.Errorf("P11.1: no limit: Charge(%d): %d", n, e)
		}
	}
	if a.Back(many*api.MaxBudget+1) || !a.Back(many*api.MaxBudget) || a.Back(1) {
		t.Error("P11.1: no limit: Back")
	}
	for i := range many {
		if !a.Give(1 + i*(api.MaxBudget+1)) {
			t.Fatalf("P11.1: no limit: Give %d", i)
		}
	}
	if a.Used() != 0 || a.Regions() != 0 {
		t.Errorf("P11.1: no limit, emptied: %d, %d", a.Used(), a.Regions())
	}
}

// An argument that is none comes ahead of a lack of room.
func TestArgBeforeRoom(t *testing.T) {
	hold := func(p *pair) {
		t.Helper()
		for _, n := range beyond(1) {
			if at, e := p.real.Take(n); at != 0 || e != api.ErrArg {
				t.Errorf("P11.1: Take(%d): %d, %d", n, at, e)
			}
			p.check()
		}
		for _, n := range beyond(0) {
			if e := p.real.Charge(n); e != api.ErrArg {
				t.Errorf("P11.1: Charge(%d): %d", n, e)
			}
			p.check()
		}
	}
	for _, budget := range []int{0, 1, 10, api.MaxBudget} {
		p := newPair(t, budget)
		hold(p)
		p.take(max(budget-1, 1))
		hold(p)
		p.charge(1)
		hold(p)
		p.checkEnd()
	}
	// Greater than the budget, but not than MaxBudget, is no wrong argument.
	p := newPair(t, 10)
	p.take(4)
	for _, n := range []int{7, 11, 1000, api.MaxBudget - 1, api.MaxBudget} {
		if at, e := p.real.Take(n); at != 0 || e != api.ErrRoom {
			t.Errorf("P11.1: Take(%d): %d, %d", n, at, e)
		}
		if e := p.real.Charge(n); e != api.ErrRoom {
			t.Errorf("P11.1: Charge(%d): %d", n, e)
		}
		p.check()
	}
	p.checkEnd()
}

// What is used may be of regions, of charges or of both: what is left decides.
func TestUpToTheBudget(t *testing.T) {
	const budget = 9
	for taken := range budget + 1 {
		for charged := range budget + 1 - taken {
			for n := -1; n <= budget+1; n++ {
				for _, charges := range []bool{false, true} {
					p := newPair(t, budget)
					if taken > 0 {
						p.take(taken)
					}
					p.charge(charged)
					if charges {
						p.charge(n)
					} else {
						p.take(n)
					}
					p.charge(budget - p.want.used() + 1)
					p.charge(budget - p.want.used())
					p.checkEnd()
				}
			}
		}
	}
}

// Here nothing but the chapter is asked: the addresses are written out.
func TestAddresses(t *testing.T) {
	a := arena.New(20)
	take := func(n int, want int) {
		t.Helper()
		if at, e := a.Take(n); at != want || e != api.OK {
			t.Errorf("P11.1: Take(%d): %d, %d, not %d", n, at, e, want)
		}
	}
	fail := func(n int, wrong api.Errno) {
		t.Helper()
		if at, e := a.Take(n); at != 0 || e != wrong {
			t.Errorf("P11.1: Take(%d): %d, %d, not %d", n, at, e, wrong)
		}
	}
	give := func(at int, want bool) {
		t.Helper()
		if ok := a.Give(at); ok != want {
			t.Errorf("P11.1: Give(%d): %v", at, ok)
		}
	}
	fail(21, api.ErrRoom)
	fail(0, api.ErrArg)
	take(5, 1)
	take(1, 7)
	take(1, 9)
	give(7, true)
	take(2, 11)
	// The one allocated last.
	give(11, true)
	take(3, 14)
	give(14, true)
	give(9, true)
	give(1, true)
	// None is left.
	take(20, 18)
	fail(1, api.ErrRoom)
	fail(api.MaxBudget+1, api.ErrArg)
	give(18, true)
	if a.Charge(20) != api.OK {
		t.Error("P11.1: Charge(20)")
	}
	fail(1, api.ErrRoom)
	if !a.Back(20) {
		t.Error("P11.1: Back(20)")
	}
	take(1, 39)
	give(18, false)
	take(1, 41)
	give(39, true)
	take(1, 43)
}

// Give finds the beginnings of those that exist, and nothing else.
func TestGive(t *testing.T) {
	p := newPair(t, 100)
	for _, n := range []int{5, 1, 1, 7, 3} {
		p.take(n)
	}
	p.charge(4)
	p.give(7)
	p.give(19)
	exist := map[int]int{1: 5, 9: 1, 11: 7}
	hold := func() {
		t.Helper()
		for at := -50; at < 50; at++ {
			if exist[at] == 0 && p.real.Give(at) {
				t.Errorf("P11.1: Give(%d): true", at)
			}
			p.check()
		}
		for _, at := range far() {
			if exist[at] == 0 && p.real.Give(at) {
				t.Errorf("P11.1: Give(%d): true", at)
			}
			p.check()
		}
	}
	hold()
	for _, at := range []int{9, 1, 11} {
		delete(exist, at)
		p.give(at)
		hold()
	}
	if p.real.Used() != 4 || p.real.Regions() != 0 {
		t.Errorf("P11.1: %d, %d", p.real.Used(), p.real.Regions())
	}
	p.checkEnd()
}

// An address is given but once: a second Give of it never meets a later region.
func TestGiveTwice(t *testing.T) {
	for _, budget := range []int{0, 1, 3} {
		a := arena.New(budget)
		for i := range 2000 {
			at, e := a.Take(1)
			if at != 1+2*i || e != api.OK || a.Used() != 1 || a.Regions() != 1 {
				t.Fatalf("P11.1: Take, round %d: %d, %d", i, at, e)
			}
			for _, other := range []int{at - 2, at - 1, at + 1, at + 2, -at} {
				if a.Give(other) {
					t.Fatalf("P11.1: Give(%d) of %d: true", other, at)
				}
			}
			if !a.Give(at) || a.Give(at) || a.Used() != 0 || a.Regions() != 0 {
				t.Fatalf("P11.1: Give(%d): %d, %d", at, a.Used(), a.Regions())
			}
		}
	}
}

// orders calls what it is given with each order of the numbers below n.
func orders(n int, each func([]int)) {
	var fill func([]int, int)
	fill = func(before []int, seen int) {
		if len(before) == n {
			each(before)
			return
		}
		for i := range n {
			if seen&(1<<i) == 0 {
				fill(append(before[:len(before):len(before)], i), seen|1<<i)
			}
		}
	}
	fill(nil, 0)
}

func TestGiveInEachOrder(t *testing.T) {
	sizes := []int{3, 1, 4, 1, 5}
	orders(len(sizes), func(order []int) {
		p := newPair(t, 14)
		var at []int
		for _, n := range sizes {
			at = append(at, p.take(n))
		}
		for _, i := range order {
			p.take(sizes[i])
			p.give(at[i])
			p.give(at[i])
			p.take(sizes[i] + 1)
			p.take(sizes[i])
		}
		p.checkEnd()
	})
}

func TestCharge(t *testing.T) {
	p := newPair(t, 10)
	p.charge(0)
	p.back(0)
	p.charge(3)
	p.charge(4)
	p.charge(4)
	p.charge(3)
	p.charge(1)
	p.charge(0)
	p.back(1)
	p.take(2)
	p.take(1)
	p.charge(1)
	// What is taken is not charged, and the other way round.
	p.back(10)
	p.give(1)
	p.back(9)
	p.back(0)
	p.back(1)
	p.checkEnd()
}

func TestBack(t *testing.T) {
	for _, charged := range []int{0, 1, 5, 40, api.MaxBudget} {
		for _, budget := range []int{0, api.MaxBudget} {
			for _, n := range append(far(), charged-1, charged, charged+1) {
				a := arena.New(budget)
				if a.Charge(charged) != api.OK {
					t.Fatalf("P11.1: Charge(%d)", charged)
				}
				want, left := false, charged
				if n >= 0 && n <= charged {
					want, left = true, charged-n
				}
				if ok := a.Back(n); ok != want || a.Used() != left || a.Regions() != 0 {
					t.Errorf("P11.1: %d charged: Back(%d): %v, %d", charged, n, ok, a.Used())
				}
				if a.Back(left+1) || !a.Back(left) || a.Used() != 0 {
					t.Errorf("P11.1: %d charged, Back(%d): the rest", charged, n)
				}
			}
		}
	}
}

// Words of regions are not to be had back as if they were charged.
func TestBackOfWhatIsTaken(t *testing.T) {
	a := arena.New(10)
	a.Take(6)
	if a.Back(1) || a.Back(6) || a.Used() != 6 {
		t.Errorf("P11.1: Back of what is taken: %d", a.Used())
	}
	a.Charge(2)
	if a.Back(3) || a.Back(8) || !a.Back(2) || a.Used() != 6 || a.Regions() != 1 {
		t.Errorf("P11.1: Back of what is taken: %d", a.Used())
	}
}

// Each row of some calls leads to what the model says, whatever it consists of.
func TestEachRowOfCalls(t *testing.T) {
	calls := []func(*pair){
		func(p *pair) { p.take(1) },
		func(p *pair) { p.take(2) },
		func(p *pair) { p.take(5) },
		func(p *pair) { p.give(1) },
		func(p *pair) { p.give(3) },
		func(p *pair) { p.give(4) },
		func(p *pair) { p.charge(1) },
		func(p *pair) { p.charge(3) },
		func(p *pair) { p.back(1) },
		func(p *pair) { p.back(2) },
	}
	const length = 5
	rows := 1
	for range length {
		rows *= len(calls)
	}
	for row := range rows {
		p, rest := newPair(t, 4), row
		for range length {
			calls[rest%len(calls)](p)
			rest /= len(calls)
		}
		p.checkEnd()
	}
}

func TestLongRows(t *testing.T) {
	for seed := range int64(30) {
		r := rand.New(rand.NewSource(seed))
		p := newPair(t, []int{0, 1, 30, 1000, api.MaxBudget}[seed%5])
		most := 40
		if p.want.budget == api.MaxBudget {
			most = api.MaxBudget / 3
		}
		for range 600 {
			switch which := r.Intn(10); {
			case which < 4:
				p.take(r.Intn(most) - 1)
			case which < 7 && len(p.want.all) > 0:
				one := p.want.all[r.Intn(len(p.want.all))]
				p.give(one.at + r.Intn(6)/5)
			case which < 9:
				p.charge(r.Intn(most) - 1)
			default:
				p.back(r.Intn(2*most) - 1)
			}
		}
		for _, one := range p.want.all {
			p.give(one.at)
		}
		p.back(p.want.charged)
		p.take(1)
	}
}

func TestTwoArenas(t *testing.T) {
	one, other := newPair(t, 10), newPair(t, 7)
	one.take(4)
	other.check()
	other.give(1)
	other.back(1)
	other.take(2)
	other.take(3)
	one.give(4)
	one.charge(6)
	other.charge(2)
	other.charge(1)
	one.back(2)
	other.give(1)
	one.take(2)
	one.take(1)
	other.take(2)
	one.give(1)
	one.check()
	other.check()
	one.checkEnd()
	other.checkEnd()
}

func TestArenasAtOnce(t *testing.T) {
	var group sync.WaitGroup
	for seed := range int64(8) {
		group.Go(func() {
			r := rand.New(rand.NewSource(seed))
			a, m := arena.New(100), model{budget: 100}
			for range 500 {
				n, at := r.Intn(40), 1+r.Intn(200)
				got, e := a.Take(n)
				if want, wrong := m.take(n); got != want || e != wrong {
					t.Errorf("P11.1: Take(%d) beside other arenas: %d, %d", n, got, e)
				}
				if a.Give(at) != m.give(at) || a.Charge(n/4) != m.charge(n/4) || a.Back(n/3) != m.back(n/3) {
					t.Error("P11.1: beside other arenas")
				}
				if a.Used() != m.used() || a.Regions() != m.regions() {
					t.Errorf("P11.1: beside other arenas: %d, %d", a.Used(), a.Regions())
				}
			}
		})
	}
	group.Wait()
}

func TestNil(t *testing.T) {
	var a *arena.Arena
	for _, n := range far() {
		if at, e := a.Take(n); at != 0 || e != api.ErrNil {
			t.Errorf("R3: Take(%d): %d, %d", n, at, e)
		}
		if e := a.Charge(n); e != api.ErrNil {
			t.Errorf("R3: Charge(%d): %d", n, e)
		}
		if a.Give(n) || a.Back(n) {
			t.Errorf("R3: Give(%d), Back(%d)", n, n)
		}
	}
	if a.Used() != 0 || a.Regions() != 0 {
		t.Errorf("R3: %d, %d", a.Used(), a.Regions())
	}
}

// Among very many regions, no call may look at all of them.
func TestVeryMany(t *testing.T) {
	const many = 1 << 19
	a := arena.New(api.MaxBudget)
	for i := range many {
		if at, e := a.Take(1); at != 1+2*i || e != api.OK || a.Used() != i+1 || a.Regions() != i+1 {
			t.Fatalf("P11.1: Take %d: %d, %d", i, at, e)
		}
	}
	for i := range many {
		// An odd number times i goes through all of them, in no order.
		at := 1 + 2*(i*40503%many)
		if a.Give(at+1) || !a.Give(at) || a.Give(at) {
			t.Fatalf("P11.1: Give(%d)", at)
		}
		if a.Used() != many-i-1 || a.Regions() != many-i-1 {
			t.Fatalf("P11.1: %d, %d, not %d", a.Used(), a.Regions(), many-i-1)
		}
	}
	if at, e := a.Take(api.MaxBudget); at != 1+2*many || e != api.OK {
		t.Errorf("P11.1: Take of all: %d, %d", at, e)
	}
}
