package real_test

import (
	"math"
	"math/big"
	"slices"
	"testing"

	"beehive/api"
	"beehive/num"
	"beehive/real"
)

const (
	minus = uint64(1) << 63
	inf   = uint64(0x7FF0000000000000)
	nan   = uint64(api.NaN)
)

func bits(f float64) uint64 { return math.Float64bits(f) }

func value(a uint64) float64 { return math.Float64frombits(a) }

// power is 2 to the n-th, plus a little.
func power(n uint, plus int64) *big.Int {
	x := new(big.Int).Lsh(big.NewInt(1), n)
	return x.Add(x, big.NewInt(plus))
}

func ofBig(x *big.Int) api.Num {
	made := api.Num{Neg: x.Sign() < 0}
	rest := new(big.Int).Abs(x)
	for rest.Sign() > 0 {
		made.Mag = append(made.Mag, uint32(new(big.Int).And(rest, big.NewInt(math.MaxUint32)).Uint64()))
		rest.Rsh(rest, 32)
	}
	return made
}

// dice is a sequence of bits that is the same each time.
func dice() func() uint64 {
	state := uint64(1)
	return func() uint64 {
		state = state*6364136223846793005 + 1442695040888963407
		return state ^ state>>29
	}
}

// nans are NaNs of many bits, the valid one not among them.
func nans() []uint64 {
	return []uint64{inf + 1, inf | minus | 1, nan - 1, nan + 1, nan | minus, 0x7FF8000000000000, 0xFFF8000000000000, 0x7FFFFFFFFFFFFFFF, math.MaxUint64, 0x7FF4000000000000, inf | 1<<50}
}

// floats are in ascending order, and none of them is a NaN.
func floats() []uint64 {
	up := []float64{0, 5e-324, 1e-323, 2.2250738585072009e-308, 2.2250738585072014e-308, 1e-300, 1e-16, 0.1, 0.2, 0.5, math.Nextafter(1, 0), 1, math.Nextafter(1, 2), 1.5, 2, 3, 7, 10, 1<<53 - 1, 1 << 53, 1<<53 + 2, math.Ldexp(1, 64), math.Ldexp(1, 200), 1e100, 1e160, math.Ldexp(1, 1023), math.MaxFloat64, math.Inf(1)}
	all := []uint64{}
	for _, f := range up {
		all = append(all, bits(f))
	}
	for _, f := range up {
		all = slices.Insert(all, 0, bits(f)|minus)
	}
	return all
}

func TestMayAndClean(t *testing.T) {
	for _, a := range append(floats(), nan) {
		if !real.May(a) || real.Clean(a) != a {
			t.Errorf("P2.1: %x is valid, but May is %v and Clean is %x", a, real.May(a), real.Clean(a))
		}
	}
	for _, a := range nans() {
		if real.May(a) || real.Clean(a) != nan {
			t.Errorf("P2.1: %x is not valid, but May is %v and Clean is %x", a, real.May(a), real.Clean(a))
		}
	}
}

// integers are of every length; around each half between two floats lie three.
func integers() []*big.Int {
	all := []*big.Int{big.NewInt(0), big.NewInt(3), big.NewInt(12345), power(256, -1), power(256, -2)}
	roll := dice()
	for n := uint(0); n < 256; n++ {
		all = append(all, power(n, -1), power(n, 0), power(n, 1))
		if n < 53 {
			continue
		}
		low := n - 53
		for _, mantissa := range []int64{1 << 53, 1<<53 + 1, 1<<53 + 2, 1<<53 + 3, 1<<54 - 2, 1<<54 - 1, 1<<53 | int64(roll()>>11)} {
			for _, plus := range []int64{-1, 0, 1} {
				x := new(big.Int).Lsh(big.NewInt(mantissa), low)
				all = append(all, x.Add(x, big.NewInt(plus)))
			}
		}
	}
	for range 2000 {
		x := new(big.Int).SetUint64(roll())
		for range roll() % 4 {
			x.Lsh(x, 64).Add(x, new(big.Int).SetUint64(roll()))
		}
		all = append(all, x.Rsh(x, uint(roll()%60)))
	}
	all = slices.DeleteFunc(all, func(x *big.Int) bool { return x.BitLen() > 256 })
	for _, x := range slices.Clone(all) {
		all = append(all, new(big.Int).Neg(x))
	}
	return all
}

func TestOf(t *testing.T) {
	for _, x := range integers() {
		want, _ := new(big.Float).SetInt(x).Float64()
		if got := real.Of(ofBig(x)); got != bits(want) {
			t.Errorf("P2.1: Of(%v) is %v, not %v", x, value(got), want)
		}
	}
	for _, x := range []struct {
		of   api.Num
		want float64
	}{
		{api.Num{}, 0},
		{api.Num{Mag: []uint32{}}, 0},
		{num.Of(-1), -1},
		{num.Of(1<<53 + 1), 1 << 53},
		{num.Of(1<<53 + 3), 1<<53 + 4},
		{num.Of(-1<<53 - 3), -1<<53 - 4},
		{ofBig(power(256, -1)), math.Ldexp(1, 256)},
		{num.Neg(ofBig(power(256, -1))), math.Ldexp(-1, 256)},
	} {
		if got := real.Of(x.of); got != bits(x.want) {
			t.Errorf("P2.1: Of(%v) is %x, not %x", x.of, got, bits(x.want))
		}
	}
}

// wrong are integers that are not valid.
func wrong() []api.Num {
	return []api.Num{
		{Neg: true},
		{Neg: true, Mag: []uint32{}},
		{Mag: []uint32{0}},
		{Neg: true, Mag: []uint32{5, 0}},
		{Mag: []uint32{1, 2, 3, 4, 5, 6, 7, 0}},
		{Mag: []uint32{1, 2, 3, 4, 5, 6, 7, 8, 9}},
		{Neg: true, Mag: slices.Repeat([]uint32{1}, 1<<16)},
	}
}

func TestWrongIntegers(t *testing.T) {
	for i, x := range wrong() {
		if got := real.Of(x); got != 0 {
			t.Errorf("P2.1: Of, wrong integer %d: %x", i, got)
		}
		for _, b := range append(floats(), append(nans(), nan)...) {
			if got := real.CmpNum(x, b); got != 0 {
				t.Errorf("P2.2: CmpNum, wrong integer %d and %x: %d", i, b, got)
			}
		}
	}
}

func finite(a uint64) bool { return a&inf != inf }

func exact(a uint64) *big.Rat { return new(big.Rat).SetFloat64(value(a)) }

// rounds holds a result that is not 0 against the exact one, rounded once.
func rounds(t *testing.T, name string, a uint64, b uint64, got uint64, want *big.Rat) {
	t.Helper()
	near, _ := want.Float64()
	if want.Sign() != 0 && got != bits(near) {
		t.Errorf("P2.1: %s(%v, %v) is %v, not %v", name, value(a), value(b), value(got), near)
	}
}

func TestRounding(t *testing.T) {
	all, roll := slices.DeleteFunc(floats(), func(a uint64) bool { return !finite(a) }), dice()
	for range 40 {
		near := bits(1) + roll()>>8 - 1<<55
		all = append(all, near, near|minus)
		if any := roll(); finite(any) {
			all = append(all, any)
		}
	}
	for _, a := range all {
		for _, b := range all {
			x, y := exact(a), exact(b)
			rounds(t, "Add", a, b, real.Add(a, b), new(big.Rat).Add(x, y))
			rounds(t, "Sub", a, b, real.Sub(a, b), new(big.Rat).Sub(x, y))
			rounds(t, "Mul", a, b, real.Mul(a, b), new(big.Rat).Mul(x, y))
			if y.Sign() != 0 {
				rounds(t, "Div", a, b, real.Div(a, b), new(big.Rat).Quo(x, y))
			}
		}
	}
}

func TestEdges(t *testing.T) {
	one, two, least, most := bits(1), bits(2), uint64(1), bits(math.MaxFloat64)
	for _, x := range []struct {
		name string
		do   func(uint64, uint64) uint64
		a, b uint64
		want uint64
	}{
		{"0 + 0", real.Add, 0, 0, 0},
		{"0 + -0", real.Add, 0, minus, 0},
		{"-0 + 0", real.Add, minus, 0, 0},
		{"-0 + -0", real.Add, minus, minus, minus},
		{"1 + -1", real.Add, one, one | minus, 0},
		{"inf + inf", real.Add, inf, inf, inf},
		{"inf + -inf", real.Add, inf, inf | minus, nan},
		{"-inf + 1", real.Add, inf | minus, one, inf | minus},
		{"the most twice", real.Add, most, most, inf},
		{"0 - 0", real.Sub, 0, 0, 0},
		{"-0 - 0", real.Sub, minus, 0, minus},
		{"0 - -0", real.Sub, 0, minus, 0},
		{"-0 - -0", real.Sub, minus, minus, 0},
		{"inf - inf", real.Sub, inf, inf, nan},
		{"-inf - -inf", real.Sub, inf | minus, inf | minus, nan},
		{"inf - -inf", real.Sub, inf, inf | minus, inf},
		{"1 - inf", real.Sub, one, inf, inf | minus},
		{"0 * 5", real.Mul, 0, bits(5), 0},
		{"-0 * 5", real.Mul, minus, bits(5), minus},
		{"-0 * -5", real.Mul, minus, bits(-5), 0},
		{"0 * inf", real.Mul, 0, inf, nan},
		{"inf * -0", real.Mul, inf, minus, nan},
		{"inf * -2", real.Mul, inf, two | minus, inf | minus},
		{"too great a product", real.Mul, most, two | minus, inf | minus},
		{"too little a product", real.Mul, least, bits(0.5), 0},
		{"too little a product below 0", real.Mul, least | minus, bits(0.5), minus},
		{"1 / 0", real.Div, one, 0, inf},
		{"1 / -0", real.Div, one, minus, inf | minus},
		{"-1 / 0", real.Div, one | minus, 0, inf | minus},
		{"-1 / -0", real.Div, one | minus, minus, inf},
		{"0 / 0", real.Div, 0, 0, nan},
		{"0 / -0", real.Div, 0, minus, nan},
		{"-0 / 2", real.Div, minus, two, minus},
		{"inf / 0", real.Div, inf, 0, inf},
		{"inf / inf", real.Div, inf, inf, nan},
		{"-inf / inf", real.Div, inf | minus, inf, nan},
		{"1 / -inf", real.Div, one, inf | minus, minus},
		{"the least / 2", real.Div, least, two, 0},
		{"the most / the least", real.Div, most, least, inf},
	} {
		if got := x.do(x.a, x.b); got != x.want {
			t.Errorf("P2.1: %s is %x, not %x", x.name, got, x.want)
		}
	}
}

func TestNaNStays(t *testing.T) {
	for _, a := range append(nans(), nan) {
		for _, b := range append(floats(), append(nans(), nan)...) {
			for i, do := range []func(uint64, uint64) uint64{real.Add, real.Sub, real.Mul, real.Div} {
				if do(a, b) != nan || do(b, a) != nan {
					t.Errorf("P2.1: call %d of %x and %x: %x, %x", i, a, b, do(a, b), do(b, a))
				}
			}
		}
	}
}

func TestCmp(t *testing.T) {
	order := append(floats(), nan)
	for i, a := range order {
		for k, b := range order {
			want := 0
			if i < k {
				want = -1
			} else if i > k {
				want = 1
			}
			if got := real.Cmp(a, b); got != want {
				t.Errorf("P2.2: Cmp(%v, %v) is %d", value(a), value(b), got)
			}
		}
	}
	for _, a := range nans() {
		for _, b := range floats() {
			if real.Cmp(a, b) != 1 || real.Cmp(b, a) != -1 {
				t.Errorf("P2.2: Cmp(%x, %x) is %d, and %d the other way", a, b, real.Cmp(a, b), real.Cmp(b, a))
			}
		}
		for _, b := range append(nans(), nan) {
			if real.Cmp(a, b) != 0 || real.Cmp(b, a) != 0 {
				t.Errorf("P2.2: Cmp(%x, %x) is %d", a, b, real.Cmp(a, b))
			}
		}
	}
}

// neighbours are floats at x: the nearest one, those beside it, and some halves.
func neighbours(x *big.Int) []float64 {
	f, _ := new(big.Float).SetInt(x).Float64()
	return []float64{f, math.Nextafter(f, math.Inf(1)), math.Nextafter(f, math.Inf(-1)), -f, f + 0.5, f - 0.5, f / 2, f * 2}
}

func TestCmpNum(t *testing.T) {
	for _, x := range integers() {
		exactly := new(big.Rat).SetInt(x)
		for _, f := range neighbours(x) {
			want := -1
			if exactly.Cmp(new(big.Rat).SetFloat64(f)) > 0 {
				want = 1
			}
			if got := real.CmpNum(ofBig(x), bits(f)); got != want {
				t.Errorf("P2.2: CmpNum(%v, %v) is %d", x, f, got)
			}
		}
		for _, b := range append(nans(), nan, inf) {
			if got := real.CmpNum(ofBig(x), b); got != -1 {
				t.Errorf("P2.2: CmpNum(%v, %x) is %d", x, b, got)
			}
		}
		if got := real.CmpNum(ofBig(x), inf|minus); got != 1 {
			t.Errorf("P2.2: CmpNum(%v, minus infinity) is %d", x, got)
		}
	}
}

func TestCmpNumEdges(t *testing.T) {
	top := ofBig(power(256, -1))
	bottom := num.Neg(top)
	for _, x := range []struct {
		x    api.Num
		f    float64
		want int
	}{
		{num.Of(0), 0, -1},
		{num.Of(0), value(minus), -1},
		{num.Of(0), 5e-324, -1},
		{num.Of(0), -5e-324, 1},
		{num.Of(1), math.Nextafter(1, 0), 1},
		{num.Of(1), math.Nextafter(1, 2), -1},
		{num.Of(-1), math.Nextafter(-1, 0), -1},
		{num.Of(-1), math.Nextafter(-1, -2), 1},
		{num.Of(1<<53 + 1), 1 << 53, 1},
		{num.Of(1<<53 + 1), 1<<53 + 2, -1},
		{top, math.Ldexp(1, 256), -1},
		{top, math.Nextafter(math.Ldexp(1, 256), 0), 1},
		{bottom, math.Ldexp(-1, 256), 1},
		{bottom, math.Nextafter(math.Ldexp(-1, 256), 0), -1},
		{top, math.MaxFloat64, -1},
		{bottom, -math.MaxFloat64, 1},
	} {
		if got := real.CmpNum(x.x, bits(x.f)); got != x.want {
			t.Errorf("P2.2: CmpNum(%v, %v) is %d", x.x, x.f, got)
		}
	}
}

func TestExample(t *testing.T) {
	if got := real.Cmp(minus, 0); got != -1 {
		t.Errorf("P2.2: Cmp(-0, 0) is %d", got)
	}
	if got := real.CmpNum(num.Of(0), minus); got != -1 {
		t.Errorf("P2.2: CmpNum(Of(0), -0) is %d", got)
	}
	if got := real.Div(bits(1), minus); got != inf|minus {
		t.Errorf("P2.1: Div(1, -0) is %x", got)
	}
}

// TestUnchanged is R4: the limbs of an argument stay, those beyond its length too.
func TestUnchanged(t *testing.T) {
	for _, x := range integers()[:200] {
		before := append(ofBig(x).Mag, 99, 99, 99, 99)
		mag := slices.Clone(before)
		arg := api.Num{Neg: x.Sign() < 0, Mag: mag[:len(mag)-4]}
		real.Of(arg)
		for _, b := range floats() {
			real.CmpNum(arg, b)
		}
		if !slices.Equal(mag, before) {
			t.Errorf("R4: the limbs of %v were changed", x)
		}
	}
}
