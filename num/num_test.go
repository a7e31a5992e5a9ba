package num_test

import (
	"math"
	"math/big"
	"slices"
	"testing"

	"beehive/api"
	"beehive/num"
)

func limbs(neg bool, mag ...uint32) api.Num { return api.Num{Neg: neg, Mag: mag} }

func same(a api.Num, b api.Num) bool { return a.Neg == b.Neg && slices.Equal(a.Mag, b.Mag) }

func zero(x api.Num) bool { return !x.Neg && len(x.Mag) == 0 }

// power is 2 to the n-th, plus a little.
func power(n uint, plus int64) *big.Int {
	x := new(big.Int).Lsh(big.NewInt(1), n)
	return x.Add(x, big.NewInt(plus))
}

func minus(x *big.Int) *big.Int { return new(big.Int).Neg(x) }

// ofBig writes the limbs one by one, with nothing of package num.
func ofBig(x *big.Int) api.Num {
	made := api.Num{Neg: x.Sign() < 0}
	rest := new(big.Int).Abs(x)
	for rest.Sign() > 0 {
		made.Mag = append(made.Mag, uint32(new(big.Int).And(rest, big.NewInt(math.MaxUint32)).Uint64()))
		rest.Rsh(rest, 32)
	}
	return made
}

func fits(x *big.Int) bool { return x.BitLen() <= 32*api.MaxLimbs }

// samples are integers of every length, the edges among them, with both signs.
func samples() []*big.Int {
	all := []*big.Int{big.NewInt(0), big.NewInt(2), big.NewInt(3), big.NewInt(1000003)}
	for _, n := range []uint{0, 31, 32, 60, 63, 64, 96, 127, 128, 129, 160, 192, 223, 224, 255} {
		all = append(all, power(n, -1), power(n, 0), power(n, 1))
	}
	all = append(all, power(256, -2), power(256, -1), new(big.Int).Sub(power(256, 0), power(32, 0)))
	state := uint64(1)
	for many := 1; many <= api.MaxLimbs; many++ {
		for range 4 {
			x := new(big.Int)
			for range many {
				state = state*6364136223846793005 + 1442695040888963407
				x.Lsh(x, 32).Add(x, new(big.Int).SetUint64(state>>32))
			}
			all = append(all, x)
		}
	}
	for _, x := range slices.Clone(all) {
		all = append(all, minus(x))
	}
	return all
}

// wrong are integers that are not valid.
func wrong() map[string]api.Num {
	return map[string]api.Num{
		"Neg without limbs":             limbs(true),
		"Neg with empty limbs":          {Neg: true, Mag: []uint32{}},
		"a limb of 0":                   limbs(false, 0),
		"a limb of 0, Neg":              limbs(true, 0),
		"a last limb of 0":              limbs(false, 1, 0),
		"a last limb of 0, Neg":         limbs(true, 7, 7, 0),
		"only limbs of 0":               limbs(false, 0, 0, 0),
		"MaxLimbs limbs, the last of 0": limbs(false, 1, 2, 3, 4, 5, 6, 7, 0),
		"one limb too many":             limbs(false, 1, 2, 3, 4, 5, 6, 7, 8, 9),
		"one limb too many, Neg":        limbs(true, 1, 2, 3, 4, 5, 6, 7, 8, 9),
		"one limb too many, of 0":       limbs(false, 1, 2, 3, 4, 5, 6, 7, 8, 0),
		"very many limbs":               {Mag: slices.Repeat([]uint32{1}, 1<<16)},
	}
}

func TestMay(t *testing.T) {
	for _, x := range samples() {
		if !num.May(ofBig(x)) {
			t.Errorf("P1.1: May(%v) is false", x)
		}
	}
	for _, x := range []api.Num{{}, {Mag: []uint32{}}, limbs(false, 0, 0, 1), limbs(true, 0, 0, 0, 0, 0, 0, 0, 1)} {
		if !num.May(x) {
			t.Errorf("P1.1: May(%v) is false", x)
		}
	}
	for name, x := range wrong() {
		if num.May(x) {
			t.Errorf("P1.1: May is true of %s", name)
		}
	}
}

func TestOf(t *testing.T) {
	for _, n := range []int{0, 1, 2, 77, math.MaxInt32, math.MaxInt32 + 1, math.MaxUint32, math.MaxUint32 + 1, 5 << 32, api.Greatest, api.Greatest + 1, math.MaxInt - 1, math.MaxInt} {
		for _, n := range []int{n, -n, -n - 1} {
			if got, want := num.Of(n), ofBig(big.NewInt(int64(n))); !same(got, want) {
				t.Errorf("P1.1: Of(%d) is %v, not %v", n, got, want)
			}
		}
	}
}

func TestSmall(t *testing.T) {
	least, greatest := big.NewInt(api.Least), big.NewInt(api.Greatest)
	tries := append(samples(), least, greatest, power(60, 0), minus(power(60, 1)), minus(power(60, -1)), power(64, 5), minus(power(96, 5)))
	for _, x := range tries {
		small := x.Cmp(least) >= 0 && x.Cmp(greatest) <= 0
		want := 0
		if small {
			want = int(x.Int64())
		}
		if got, ok := num.Small(ofBig(x)); got != want || ok != small {
			t.Errorf("P1.1: Small(%v) is %d, %v", x, got, ok)
		}
	}
}

func TestCmp(t *testing.T) {
	all := samples()
	for _, a := range all {
		for _, b := range all {
			if got := num.Cmp(ofBig(a), ofBig(b)); got != a.Cmp(b) {
				t.Errorf("P1.1: Cmp(%v, %v) is %d", a, b, got)
			}
		}
	}
}

func TestNeg(t *testing.T) {
	for _, x := range samples() {
		if got := num.Neg(ofBig(x)); !same(got, ofBig(minus(x))) {
			t.Errorf("P1.1: Neg(%v) is %v", x, got)
		}
	}
}

// reckons checks a result against the one that is wanted.
func reckons(t *testing.T, name string, a *big.Int, b *big.Int, want *big.Int, got api.Num, ok bool) {
	t.Helper()
	if !fits(want) {
		if ok || !zero(got) {
			t.Errorf("P1.1: %s(%v, %v) is %v, %v: too many limbs", name, a, b, got, ok)
		}
		return
	}
	if !ok || !same(got, ofBig(want)) {
		t.Errorf("P1.1: %s(%v, %v) is %v, %v, not %v", name, a, b, got, ok, want)
	}
}

func TestReckoning(t *testing.T) {
	all := samples()
	for _, a := range all {
		for _, b := range all {
			x, y := ofBig(a), ofBig(b)
			sum, ok := num.Add(x, y)
			reckons(t, "Add", a, b, new(big.Int).Add(a, b), sum, ok)
			rest, ok := num.Sub(x, y)
			reckons(t, "Sub", a, b, new(big.Int).Sub(a, b), rest, ok)
			product, ok := num.Mul(x, y)
			reckons(t, "Mul", a, b, new(big.Int).Mul(a, b), product, ok)
		}
	}
}

func TestMostLimbs(t *testing.T) {
	top := ofBig(power(256, -1))
	for _, x := range []struct {
		name string
		do   func(api.Num, api.Num) (api.Num, bool)
		a, b api.Num
		want *big.Int
	}{
		{"Add up to the top", num.Add, ofBig(power(256, -2)), num.Of(1), power(256, -1)},
		{"Add beyond the top", num.Add, top, num.Of(1), nil},
		{"Add down to the bottom", num.Add, ofBig(minus(power(256, -2))), num.Of(-1), minus(power(256, -1))},
		{"Add beyond the bottom", num.Add, num.Neg(top), num.Of(-1), nil},
		{"Add of the top and the bottom", num.Add, top, num.Neg(top), big.NewInt(0)},
		{"Sub down to the bottom", num.Sub, num.Of(-1), ofBig(power(256, -2)), minus(power(256, -1))},
		{"Sub beyond the bottom", num.Sub, num.Of(-1), top, nil},
		{"Sub beyond the top", num.Sub, top, num.Of(-1), nil},
		{"Sub of the top", num.Sub, top, top, big.NewInt(0)},
		{"Sub of the bottom from 0", num.Sub, num.Of(0), num.Neg(top), power(256, -1)},
		{"Mul up to 8 limbs", num.Mul, ofBig(power(128, 0)), ofBig(minus(power(127, 0))), minus(power(255, 0))},
		{"Mul to 9 limbs", num.Mul, ofBig(power(128, 0)), ofBig(power(128, 0)), nil},
		{"Mul to 9 limbs, below 0", num.Mul, ofBig(minus(power(255, 0))), num.Of(2), nil},
		{"Mul to 16 limbs", num.Mul, top, top, nil},
		{"Mul of the top and -1", num.Mul, top, num.Of(-1), minus(power(256, -1))},
		{"Mul of the bottom and 0", num.Mul, num.Neg(top), num.Of(0), big.NewInt(0)},
	} {
		got, ok := x.do(x.a, x.b)
		if x.want == nil && (ok || !zero(got)) || x.want != nil && (!ok || !same(got, ofBig(x.want))) {
			t.Errorf("P1.1: %s is %v, %v", x.name, got, ok)
		}
	}
}

func TestExample(t *testing.T) {
	if got, ok := num.Mul(num.Of(-1<<40), num.Of(1<<40)); !ok || !same(got, limbs(true, 0, 0, 65536)) {
		t.Errorf("P1.1: the chapter's example is %v, %v", got, ok)
	}
}

func TestWrong(t *testing.T) {
	others := []api.Num{num.Of(0), num.Of(1), num.Of(-5), ofBig(power(200, 0)), limbs(true), limbs(false, 0)}
	for name, x := range wrong() {
		if n, ok := num.Small(x); n != 0 || ok {
			t.Errorf("P1.1: Small of %s is %d, %v", name, n, ok)
		}
		if got := num.Neg(x); !zero(got) {
			t.Errorf("P1.1: Neg of %s is %v", name, got)
		}
		for _, y := range others {
			wrongPair(t, name, x, y)
			wrongPair(t, name, y, x)
		}
	}
}

func wrongPair(t *testing.T, name string, a api.Num, b api.Num) {
	t.Helper()
	if got := num.Cmp(a, b); got != 0 {
		t.Errorf("P1.1: Cmp with %s is %d", name, got)
	}
	for i, do := range []func(api.Num, api.Num) (api.Num, bool){num.Add, num.Sub, num.Mul} {
		if got, ok := do(a, b); ok || !zero(got) {
			t.Errorf("P1.1: call %d with %s is %v, %v", i, name, got, ok)
		}
	}
}

// roomy is x with unused capacity that shows a write.
func roomy(x api.Num) api.Num {
	mag := append(slices.Clone(x.Mag), slices.Repeat([]uint32{99}, 20)...)
	return api.Num{Neg: x.Neg, Mag: mag[:len(x.Mag)]}
}

func touched(x api.Num, before api.Num) bool {
	whole := x.Mag[:len(before.Mag)+20]
	return !same(x, before) || slices.ContainsFunc(whole[len(before.Mag):], func(limb uint32) bool { return limb != 99 })
}

// TestNothingShared is R4: writing into a result, up to its capacity, is seen nowhere else.
func TestNothingShared(t *testing.T) {
	values := []api.Num{num.Of(0), num.Of(1), num.Of(-1), num.Of(-1 << 40), ofBig(power(255, 3)), ofBig(minus(power(256, -1)))}
	for _, p := range values {
		for _, q := range values {
			a, b := roomy(p), roomy(q)
			sum, _ := num.Add(a, b)
			rest, _ := num.Sub(a, b)
			product, _ := num.Mul(a, b)
			num.Cmp(a, b)
			num.Small(a)
			results := []api.Num{sum, rest, product, num.Neg(a), num.Neg(a)}
			for i, x := range results {
				spoil(x, uint32(1000+i))
			}
			for i, x := range results {
				if slices.ContainsFunc(x.Mag, func(limb uint32) bool { return limb != uint32(1000+i) }) {
					t.Errorf("R4: results of %v and %v share memory", p, q)
				}
			}
			if touched(a, p) || touched(b, q) {
				t.Errorf("R4: %v or %v was changed", p, q)
			}
		}
	}
	first := num.Of(7)
	spoil(first, 1000)
	if !same(num.Of(7), limbs(false, 7)) {
		t.Error("R4: results of Of share memory")
	}
}

func spoil(x api.Num, with uint32) {
	whole := x.Mag[:cap(x.Mag)]
	for i := range whole {
		whole[i] = with
	}
}
