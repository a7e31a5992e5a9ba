package arith_test

import (
	"math"
	"math/big"
	"slices"

	"beehive/api"
)

var operations = []int{api.OpAdd, api.OpSub, api.OpMul, api.OpFDiv}

var names = map[int]string{api.OpAdd: "OpAdd", api.OpSub: "OpSub", api.OpMul: "OpMul", api.OpFDiv: "OpFDiv"}

func whole(n int) api.Term { return api.Term{Kind: api.Int, N: n} }

func float(f float64) api.Term { return api.Term{Kind: api.Float, Bits: math.Float64bits(f)} }

func nan() api.Term { return api.Term{Kind: api.Float, Bits: api.NaN} }

func minusZero() api.Term { return float(math.Copysign(0, -1)) }

func atom(n int) api.Term { return api.Term{Kind: api.Atom, N: n} }

func null() api.Term { return api.Term{Kind: api.Nil} }

func large(neg bool, mag ...uint32) api.Term {
	return api.Term{Kind: api.Big, Num: api.Num{Neg: neg, Mag: mag}}
}

func tuple(ts ...api.Term) api.Term { return api.Term{Kind: api.Tuple, Args: ts} }

func cons(ts ...api.Term) api.Term { return api.Term{Kind: api.Cons, Args: ts} }

// doubled has 2 to the levels-th inner terms: both Args of a Cons are one.
func doubled(levels int, inner api.Term) api.Term {
	for range levels {
		inner = cons(inner, inner)
	}
	return inner
}

// endless is a tuple that is its own last Arg.
func endless() api.Term {
	args := []api.Term{whole(1), {}}
	args[1] = tuple(args...)
	return args[1]
}

// power is 2 to the n-th, plus a little.
func power(n uint, plus int64) *big.Int {
	x := new(big.Int).Lsh(big.NewInt(1), n)
	return x.Add(x, big.NewInt(plus))
}

func minus(x *big.Int) *big.Int { return new(big.Int).Neg(x) }

// ofBig makes the Int or the Big of x, however many limbs it has.
func ofBig(x *big.Int) api.Term {
	if x.IsInt64() && api.Least <= x.Int64() && x.Int64() <= api.Greatest {
		return whole(int(x.Int64()))
	}
	made := api.Num{Neg: x.Sign() < 0}
	rest, limb := new(big.Int).Abs(x), big.NewInt(math.MaxUint32)
	for rest.Sign() > 0 {
		made.Mag = append(made.Mag, uint32(new(big.Int).And(rest, limb).Uint64()))
		rest.Rsh(rest, 32)
	}
	return api.Term{Kind: api.Big, Num: made}
}

// toBig is the integer of an Int or a Big.
func toBig(t api.Term) *big.Int {
	if t.Kind == api.Int {
		return big.NewInt(int64(t.N))
	}
	made := new(big.Int)
	for i := len(t.Num.Mag) - 1; i >= 0; i-- {
		made.Lsh(made, 32)
		made.Or(made, big.NewInt(int64(t.Num.Mag[i])))
	}
	if t.Num.Neg {
		made.Neg(made)
	}
	return made
}

// toFloat is the float closest to a number.
func toFloat(t api.Term) float64 {
	if t.Kind == api.Float {
		return math.Float64frombits(t.Bits)
	}
	near, _ := new(big.Float).SetInt(toBig(t)).Float64()
	return near
}

// expected is what Do returns for valid numbers, by the words of the chapter.
func expected(op int, a api.Term, b api.Term) (api.Term, int) {
	if op != api.OpFDiv && a.Kind != api.Float && b.Kind != api.Float {
		x := expectedOfIntegers(op, toBig(a), toBig(b))
		if x.BitLen() > 32*api.MaxLimbs {
			return api.Term{}, api.BadArith
		}
		return ofBig(x), -1
	}
	f := expectedOfFloats(op, toFloat(a), toFloat(b))
	if math.IsNaN(f) {
		return nan(), -1
	}
	return float(f), -1
}

func expectedOfIntegers(op int, x *big.Int, y *big.Int) *big.Int {
	switch op {
	case api.OpAdd:
		return new(big.Int).Add(x, y)
	case api.OpSub:
		return new(big.Int).Sub(x, y)
	}
	return new(big.Int).Mul(x, y)
}

func expectedOfFloats(op int, x float64, y float64) float64 {
	switch op {
	case api.OpAdd:
		return x + y
	case api.OpSub:
		return x - y
	case api.OpMul:
		return x * y
	}
	return x / y
}

// dice is a sequence of bits that is the same each time.
func dice() func() uint64 {
	state := uint64(1)
	return func() uint64 {
		state = state*6364136223846793005 + 1442695040888963407
		return state ^ state>>29
	}
}

// integers are powers of 2 and what lies beside them, and some of any length.
func integers() []api.Term {
	made := []api.Term{whole(0), whole(3), whole(-3), whole(12345), whole(api.Least), whole(api.Greatest)}
	add := func(x *big.Int) { made = append(made, ofBig(x), ofBig(minus(x))) }
	for _, n := range []uint{0, 1, 30, 32, 53, 59, 60, 61, 63, 64, 65, 96, 127, 128, 129, 160, 192, 224, 254, 255} {
		add(power(n, -1))
		add(power(n, 0))
		add(power(n, 1))
	}
	add(power(256, -1))
	add(power(256, -2))
	roll := dice()
	for range 30 {
		x := new(big.Int).SetUint64(roll())
		for range roll() % 4 {
			x.Lsh(x, 64).Add(x, new(big.Int).SetUint64(roll()))
		}
		add(x)
	}
	return made
}

// floats are both zeros, NaN, the infinities, the edges and some between.
func floats() []api.Term {
	made := []api.Term{nan()}
	add := func(f float64) { made = append(made, float(f), float(-f)) }
	add(0)
	for _, f := range []float64{math.Inf(1), math.MaxFloat64, math.SmallestNonzeroFloat64, 0x1p-1022, 0x1.fffffffffffffp-1023, 0.1, 0.5, 1, 1.5, 2, 3, math.Nextafter(1, 2), math.Pi, 1<<53 - 1, 1 << 53, 1<<53 + 2, 0x1p60, 0x1p64, 0x1p200, 0x1p256, 1e22, 1e160, 0x1p1023} {
		add(f)
	}
	roll := dice()
	for range 30 {
		if f := math.Float64frombits(roll()); !math.IsNaN(f) {
			add(f)
		}
	}
	return made
}

func numbers() []api.Term { return slices.Concat(integers(), floats()) }
