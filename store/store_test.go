package store_test

import (
	"math"
	"math/rand"
	"slices"
	"strings"
	"sync"
	"testing"
	"unsafe"

	"beehive/api"
	"beehive/store"
)

func xs(n int) string { return strings.Repeat("x", n) }

// far are ints around powers of two, and as far out as an int goes.
func far() []int {
	made := []int{math.MinInt, math.MinInt + 1, math.MaxInt - 1, math.MaxInt, -2, -1, 0, 1, 2}
	for bit := 2; bit < 63; bit++ {
		for by := -1; by <= 1; by++ {
			made = append(made, 1<<bit+by, -1<<bit+by)
		}
	}
	return made
}

// Here nothing but the chapter is asked: its example is written out.
func TestExample(t *testing.T) {
	s := store.New()
	if i, n, e := s.Put("a"); i != 0 || n != 1 || e != api.OK {
		t.Errorf("P10.1: Put(a): %d, %d, %d", i, n, e)
	}
	if e := s.Dec(0, 1); e != api.OK {
		t.Errorf("P10.1: Dec(0, 1): %d", e)
	}
	if i, n, e := s.Put("b"); i != 0 || n != 2 || e != api.OK {
		t.Errorf("P10.1: Put(b): %d, %d, %d", i, n, e)
	}
	if b, e := s.Get(0, 1); b != "" || e != api.ErrStale {
		t.Errorf("P10.1: Get(0, 1): %q, %d", b, e)
	}
	if b, e := s.Get(0, 2); b != "b" || e != api.OK {
		t.Errorf("P10.1: Get(0, 2): %q, %d", b, e)
	}
}

func TestNew(t *testing.T) {
	s := store.New()
	if s == nil {
		t.Fatal("P10.1: New: nil")
	}
	if len(s.Slots()) != 0 || s.Bytes() != 0 || s.Len() != 0 {
		t.Errorf("P10.1: New: %v, %d, %d", s.Slots(), s.Bytes(), s.Len())
	}
	for _, slot := range far() {
		if b, e := s.Get(slot, 0); b != "" || e != api.ErrNone {
			t.Errorf("P10.1: Get(%d, 0) of a new one: %q, %d", slot, b, e)
		}
		if e := s.Inc(slot, 0); e != api.ErrNone {
			t.Errorf("P10.1: Inc(%d, 0) of a new one: %d", slot, e)
		}
		if e := s.Dec(slot, 0); e != api.ErrNone {
			t.Errorf("P10.1: Dec(%d, 0) of a new one: %d", slot, e)
		}
	}
	if len(s.Slots()) != 0 {
		t.Errorf("R5: the errors made slots: %v", s.Slots())
	}
}

func TestPutOfEachLength(t *testing.T) {
	p := newPair(t)
	for n := 0; n <= api.MaxBytes; n++ {
		if slot, stamp := p.put(xs(n)); slot != n || stamp != 1 {
			t.Errorf("P10.1: Put of %d bytes: %d, %d", n, slot, stamp)
		}
		p.check()
	}
	p.checkGets()
}

func TestPutOfAnyBytes(t *testing.T) {
	p := newPair(t)
	for b := range 256 {
		p.put(string([]byte{byte(b)}))
		p.put(string([]byte{0, byte(b), 0}))
	}
	p.put("\xff\xfe\x00 h\u00e9 \u4e16 \xc3")
	p.check()
	p.checkGets()
}

func TestPutOfTooMany(t *testing.T) {
	tooMany := []string{xs(api.MaxBytes + 1), xs(api.MaxBytes + 2), xs(1 << 20), strings.Repeat("\u4e16", api.MaxBytes/3+1)}
	p := newPair(t)
	hold := func() {
		t.Helper()
		for _, b := range tooMany {
			if slot, stamp, e := p.real.Put(b); slot != 0 || stamp != 0 || e != api.ErrArg {
				t.Errorf("P10.1: Put of %d bytes: %d, %d, %d", len(b), slot, stamp, e)
			}
			p.check()
		}
	}
	hold()
	p.put("first")
	p.put("second")
	p.put("third")
	hold()
	p.dec(0, 1)
	p.dec(2, 1)
	hold()
	// The free slots are still there, in their order and with their stamps.
	for _, want := range [][2]int{{0, 2}, {2, 2}, {3, 1}} {
		if slot, stamp := p.put("next"); slot != want[0] || stamp != want[1] {
			t.Errorf("P10.1: Put: %d, %d, not %v", slot, stamp, want)
		}
	}
	hold()
}

// orders calls what it is given with each order of the numbers below n.
func orders(n int, each func([]int)) {
	var fill func([]int)
	fill = func(before []int) {
		if len(before) == n {
			each(before)
		}
		for i := range n {
			if !slices.Contains(before, i) {
				fill(append(slices.Clone(before), i))
			}
		}
	}
	fill(nil)
}

func TestPutTakesTheSmallest(t *testing.T) {
	const most = 6
	orders(most, func(order []int) {
		for given := range most + 1 {
			p := newPair(t)
			for range most {
				p.put("before")
			}
			for _, slot := range order[:given] {
				p.dec(slot, 1)
			}
			want := slices.Sorted(slices.Values(order[:given]))
			for _, slot := range want {
				if got, stamp := p.put("again"); got != slot || stamp != 2 {
					t.Fatalf("P10.1: %v given up: Put: %d, %d, not %d, 2", order[:given], got, stamp, slot)
				}
			}
			if got, stamp := p.put("new"); got != most || stamp != 1 {
				t.Fatalf("P10.1: none free: Put: %d, %d, not %d, 1", got, stamp, most)
			}
			p.check()
		}
	})
}

// Slots are given up while others are taken.
func TestPutBetween(t *testing.T) {
	const most = 5
	orders(most, func(order []int) {
		for takenAt := range most {
			p := newPair(t)
			for range most {
				p.put("before")
			}
			for i, slot := range order {
				p.dec(slot, p.want.slots[slot].Stamp)
				if i == takenAt {
					p.put("between")
				}
			}
			for range most + 1 {
				p.put("again")
			}
			p.check()
		}
	})
}

func TestStampOfEachUse(t *testing.T) {
	s := store.New()
	for stamp := 1; stamp <= 5000; stamp++ {
		if i, n, e := s.Put("a"); i != 0 || n != stamp || e != api.OK {
			t.Fatalf("P10.1: Put, use %d: %d, %d, %d", stamp, i, n, e)
		}
		if stamp > 1 && (s.Inc(0, stamp-1) != api.ErrStale || s.Dec(0, stamp-1) != api.ErrStale) {
			t.Fatalf("P10.1: use %d: the last stamp is not stale", stamp)
		}
		if s.Inc(0, stamp+1) != api.ErrStale || s.Dec(0, stamp+1) != api.ErrStale {
			t.Fatalf("P10.1: use %d: the next stamp is not stale", stamp)
		}
		if s.Dec(0, stamp) != api.OK || s.Dec(0, stamp) != api.ErrNone {
			t.Fatalf("P10.1: use %d: Dec", stamp)
		}
		if !slices.Equal(s.Slots(), []api.Slot{{Stamp: stamp}}) {
			t.Fatalf("P10.1: use %d: %v", stamp, s.Slots())
		}
	}
}

// mixed has slots in use, free ones and used ones again.
func mixed(t *testing.T) *pair {
	p := newPair(t)
	for _, b := range []string{"a", "", "ccc", "d", ""} {
		p.put(b)
	}
	p.inc(1, 1)
	p.inc(3, 1)
	p.inc(3, 1)
	p.dec(0, 1)
	p.dec(2, 1)
	p.dec(4, 1)
	p.put("again")
	p.check()
	return p
}

// Here nothing but the chapter is asked: the slots are written out.
func TestSlotsWrittenOut(t *testing.T) {
	s := mixed(t).real
	want := []api.Slot{
		{Stamp: 2, Count: 1, Bytes: "again"},
		{Stamp: 1, Count: 2},
		{Stamp: 1},
		{Stamp: 1, Count: 3, Bytes: "d"},
		{Stamp: 1},
	}
	if got := s.Slots(); !slices.Equal(got, want) {
		t.Errorf("P10.1: Slots: %v", got)
	}
	if s.Bytes() != 6 || s.Len() != 3 {
		t.Errorf("P10.1: Bytes, Len: %d, %d", s.Bytes(), s.Len())
	}
	for _, x := range []struct {
		slot, stamp int
		bytes       string
		wrong       api.Errno
	}{
		{0, 2, "again", api.OK},
		{0, 1, "", api.ErrStale},
		{0, 3, "", api.ErrStale},
		{0, 0, "", api.ErrStale},
		{0, -2, "", api.ErrStale},
		{1, 1, "", api.OK},
		{1, 2, "", api.ErrStale},
		{2, 1, "", api.ErrNone},
		{2, 2, "", api.ErrNone},
		{2, 0, "", api.ErrNone},
		{3, 1, "d", api.OK},
		{4, 1, "", api.ErrNone},
		{5, 0, "", api.ErrNone},
		{5, 1, "", api.ErrNone},
		{-1, 0, "", api.ErrNone},
		{-1, 1, "", api.ErrNone},
	} {
		if b, e := s.Get(x.slot, x.stamp); b != x.bytes || e != x.wrong {
			t.Errorf("P10.1: Get(%d, %d): %q, %d, not %q, %d", x.slot, x.stamp, b, e, x.bytes, x.wrong)
		}
	}
}

func TestWrongSlotsAndStamps(t *testing.T) {
	p := mixed(t)
	for _, slot := range append(far(), 3, 4, 5, 6) {
		for _, stamp := range far() {
			wrong := p.want.wrong(slot, stamp)
			p.get(slot, stamp)
			if wrong == api.OK {
				continue
			}
			p.inc(slot, stamp)
			p.dec(slot, stamp)
		}
		p.check()
	}
}

func TestDecToNothing(t *testing.T) {
	for _, b := range []string{"", "b", xs(api.MaxBytes)} {
		p := newPair(t)
		p.put("below")
		p.put(b)
		p.put("above")
		for range 100 {
			p.inc(1, 1)
			p.check()
		}
		for range 101 {
			if got, e := p.real.Get(1, 1); got != b || e != api.OK {
				t.Fatalf("P10.1: Get ahead of the last Dec: %d bytes, %d", len(got), e)
			}
			p.dec(1, 1)
			p.check()
		}
		if got := p.real.Slots()[1]; got != (api.Slot{Stamp: 1}) {
			t.Errorf("P10.1: the slot given up: %v", got)
		}
		if p.real.Bytes() != 10 || p.real.Len() != 2 {
			t.Errorf("P10.1: Bytes, Len: %d, %d", p.real.Bytes(), p.real.Len())
		}
		if p.real.Dec(1, 1) != api.ErrNone || p.real.Inc(1, 1) != api.ErrNone {
			t.Error("P10.1: Inc, Dec of the slot given up")
		}
		p.check()
	}
}

func TestSlotsOfNoneInUse(t *testing.T) {
	const many = 50
	p := newPair(t)
	for range many {
		p.put("one")
	}
	for slot := many - 1; slot >= 0; slot-- {
		p.dec(slot, 1)
		if got := len(p.real.Slots()); got != many {
			t.Fatalf("P10.1: %d slots, not %d", got, many)
		}
		p.check()
	}
	if p.real.Bytes() != 0 || p.real.Len() != 0 {
		t.Errorf("P10.1: Bytes, Len: %d, %d", p.real.Bytes(), p.real.Len())
	}
}

// Each row of some calls leads to what the model says, whatever it consists of.
func TestEachRowOfCalls(t *testing.T) {
	calls := []func(*pair){
		func(p *pair) { p.put("a") },
		func(p *pair) { p.put("") },
		func(p *pair) { p.inc(0, 1) },
		func(p *pair) { p.inc(1, 1) },
		func(p *pair) { p.dec(0, 1) },
		func(p *pair) { p.dec(0, 2) },
		func(p *pair) { p.dec(1, 1) },
		func(p *pair) { p.dec(2, 1) },
	}
	const length = 6
	rows := 1
	for range length {
		rows *= len(calls)
	}
	for row := range rows {
		p, rest := newPair(t), row
		for range length {
			calls[rest%len(calls)](p)
			rest /= len(calls)
		}
		p.check()
		p.checkGets()
	}
}

func TestLongRows(t *testing.T) {
	for seed := range int64(20) {
		r := rand.New(rand.NewSource(seed))
		p := newPair(t)
		for step := range 3000 {
			slot, stamp := r.Intn(len(p.want.slots)+2)-1, r.Intn(4)
			if slot >= 0 && slot < len(p.want.slots) && r.Intn(8) > 0 {
				stamp = p.want.slots[slot].Stamp
			}
			// Now more is put, now more given up.
			switch which := r.Intn(10); {
			case which == 0:
				p.inc(slot, stamp)
			case which == 1:
				p.get(slot, stamp)
			case which < 4 || (step/500)%2 == 0 && which < 7:
				p.put(xs(r.Intn(api.MaxBytes + 3)))
			default:
				p.dec(slot, stamp)
			}
			p.check()
		}
		p.checkGets()
	}
}

func TestTwoStores(t *testing.T) {
	one, other := newPair(t), newPair(t)
	one.put("a")
	one.put("b")
	one.dec(0, 1)
	other.check()
	other.put("of the other")
	other.inc(0, 1)
	one.check()
	other.check()
	one.put("c")
	one.inc(0, 1)
	one.get(0, 2)
	other.get(0, 2)
	other.dec(0, 2)
	other.dec(0, 1)
	other.dec(0, 1)
	one.check()
	other.check()
	one.checkGets()
	other.checkGets()
}

func TestStoresAtOnce(t *testing.T) {
	var group sync.WaitGroup
	for seed := range int64(8) {
		group.Go(func() {
			r := rand.New(rand.NewSource(seed))
			s, m := store.New(), model{}
			for range 1000 {
				slot, stamp := r.Intn(10), 1+r.Intn(10)
				if s.Dec(slot, stamp) != m.count(slot, stamp, -1) {
					t.Errorf("P10.1: Dec(%d, %d) beside other stores", slot, stamp)
				}
				b := xs(r.Intn(10))
				s.Put(b)
				m.put(b)
			}
			if !slices.Equal(s.Slots(), m.slots) {
				t.Error("P10.1: Slots beside other stores")
			}
		})
	}
	group.Wait()
}

// spoil writes over ss, and behind it as far as it may be appended to.
func spoil(ss []api.Slot) {
	whole := ss[:cap(ss)]
	for i := range whole {
		whole[i] = api.Slot{Stamp: 99, Count: 98, Bytes: "spoilt"}
	}
	_ = append(ss, api.Slot{Stamp: 97})
}

func TestSlotsAreApart(t *testing.T) {
	p := mixed(t)
	for range 100 {
		before := p.real.Slots()
		kept := slices.Clone(before)
		spoil(p.real.Slots())
		if !slices.Equal(before, kept) {
			t.Fatal("R4: what Slots returned before is changed with what it returned later")
		}
		p.check()
		p.checkGets()
		p.put("more")
		p.inc(1, 1)
		if !slices.Equal(before, kept) {
			t.Fatal("R4: what Slots returned is changed with the store")
		}
		spoil(before)
		p.check()
		p.checkGets()
	}
}

// A piece of a long text is not to keep the text.
func TestBytesAreNotKept(t *testing.T) {
	given := string([]byte("some text"))
	s := store.New()
	slot, stamp, _ := s.Put(given)
	b, e := s.Get(slot, stamp)
	if b != given || e != api.OK {
		t.Fatalf("P10.1: Get: %q, %d", b, e)
	}
	if unsafe.StringData(b) == unsafe.StringData(given) || unsafe.StringData(s.Slots()[slot].Bytes) == unsafe.StringData(given) {
		t.Error("R4: the store has kept what was handed in")
	}
}

func TestNil(t *testing.T) {
	var s *store.Store
	for _, b := range []string{"", "a", xs(api.MaxBytes), xs(api.MaxBytes + 1)} {
		if i, n, e := s.Put(b); i != 0 || n != 0 || e != api.ErrNil {
			t.Errorf("R3: Put of %d bytes: %d, %d, %d", len(b), i, n, e)
		}
	}
	for _, slot := range far() {
		for _, stamp := range []int{math.MinInt, -1, 0, 1, math.MaxInt} {
			if b, e := s.Get(slot, stamp); b != "" || e != api.ErrNil {
				t.Errorf("R3: Get(%d, %d): %q, %d", slot, stamp, b, e)
			}
			if e := s.Inc(slot, stamp); e != api.ErrNil {
				t.Errorf("R3: Inc(%d, %d): %d", slot, stamp, e)
			}
			if e := s.Dec(slot, stamp); e != api.ErrNil {
				t.Errorf("R3: Dec(%d, %d): %d", slot, stamp, e)
			}
		}
	}
	if len(s.Slots()) != 0 || s.Bytes() != 0 || s.Len() != 0 {
		t.Errorf("R3: %v, %d, %d", s.Slots(), s.Bytes(), s.Len())
	}
}

// Among very many slots, none of these calls may look at all of them.
func TestVeryMany(t *testing.T) {
	const many = 1 << 18
	s := store.New()
	for slot := range many {
		if i, n, e := s.Put("x"); i != slot || n != 1 || e != api.OK {
			t.Fatalf("P10.1: Put: %d, %d, %d", i, n, e)
		}
	}
	// Slot 0 is used again and again, while more and more behind it are free.
	for slot := many - 1; slot > 0; slot-- {
		if s.Dec(0, many-slot) != api.OK || s.Dec(slot, 1) != api.OK {
			t.Fatalf("P10.1: Dec of 0 or %d", slot)
		}
		if s.Len() != slot-1 || s.Bytes() != slot-1 {
			t.Fatalf("P10.1: Len, Bytes: %d, %d, not %d", s.Len(), s.Bytes(), slot-1)
		}
		if i, n, e := s.Put("y"); i != 0 || n != many-slot+1 || e != api.OK {
			t.Fatalf("P10.1: Put: %d, %d, %d", i, n, e)
		}
	}
	for slot := 1; slot < many; slot++ {
		if i, n, e := s.Put("zz"); i != slot || n != 2 || e != api.OK {
			t.Fatalf("P10.1: Put: %d, %d, %d, not %d", i, n, e, slot)
		}
	}
	if len(s.Slots()) != many || s.Len() != many || s.Bytes() != 2*many-1 {
		t.Errorf("P10.1: %d, %d, %d", len(s.Slots()), s.Len(), s.Bytes())
	}
}
