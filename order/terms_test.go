package order_test

import (
	"math"
	"math/big"
	"math/rand"
	"slices"
	"strings"

	"beehive/api"
)

func whole(n int) api.Term { return api.Term{Kind: api.Int, N: n} }

func float(f float64) api.Term { return api.Term{Kind: api.Float, Bits: math.Float64bits(f)} }

func nan() api.Term { return api.Term{Kind: api.Float, Bits: api.NaN} }

func atom(n int) api.Term { return api.Term{Kind: api.Atom, N: n} }

func pid(n int) api.Term { return api.Term{Kind: api.Pid, N: n} }

func null() api.Term { return api.Term{Kind: api.Nil} }

func binary(s string) api.Term { return api.Term{Kind: api.Binary, Bytes: s} }

func limbs(neg bool, mag ...uint32) api.Num { return api.Num{Neg: neg, Mag: mag} }

func large(neg bool, mag ...uint32) api.Term {
	return api.Term{Kind: api.Big, Num: limbs(neg, mag...)}
}

func tuple(ts ...api.Term) api.Term { return api.Term{Kind: api.Tuple, Args: ts} }

func cons(ts ...api.Term) api.Term { return api.Term{Kind: api.Cons, Args: ts} }

func list(ts ...api.Term) api.Term {
	made := null()
	for i := len(ts) - 1; i >= 0; i-- {
		made = cons(ts[i], made)
	}
	return made
}

func times(n int, t api.Term) []api.Term {
	made := make([]api.Term, n)
	for i := range made {
		made[i] = t
	}
	return made
}

func nested(levels int, inner api.Term) api.Term {
	for range levels {
		inner = tuple(inner)
	}
	return inner
}

// doubled has 2 to the levels-th inner terms: both Args of a Cons are one.
func doubled(levels int, inner api.Term) api.Term {
	for range levels {
		inner = cons(inner, inner)
	}
	return inner
}

// endless is a tuple that is its own last Arg.
func endless(first api.Term) api.Term {
	args := []api.Term{first, {}}
	args[1] = tuple(args...)
	return args[1]
}

// ofBig makes the Int or the Big of x.
func ofBig(x *big.Int) api.Term {
	if x.IsInt64() && api.Least <= x.Int64() && x.Int64() <= api.Greatest {
		return whole(int(x.Int64()))
	}
	made := api.Num{Neg: x.Sign() < 0}
	rest, limb := new(big.Int).Abs(x), big.NewInt(math.MaxUint32)
	for rest.Sign() > 0 {
		made.Mag = append(made.Mag, uint32(new(big.Int).And(rest, limb).Uint64()))
		rest.Rsh(rest, 32)
	}
	return api.Term{Kind: api.Big, Num: made}
}

// toBig is the integer of an Int or a Big.
func toBig(t api.Term) *big.Int {
	if t.Kind == api.Int {
		return big.NewInt(int64(t.N))
	}
	made := new(big.Int)
	for i := len(t.Num.Mag) - 1; i >= 0; i-- {
		made.Lsh(made, 32)
		made.Or(made, big.NewInt(int64(t.Num.Mag[i])))
	}
	if t.Num.Neg {
		made.Neg(made)
	}
	return made
}

// exact is a number without what can't be told by a fraction: where it
// stands among minus infinity (-1), the numbers (0), infinity (1), NaN (2).
func exact(t api.Term) (int, *big.Rat) {
	if t.Kind != api.Float {
		return 0, new(big.Rat).SetInt(toBig(t))
	}
	f := math.Float64frombits(t.Bits)
	switch {
	case math.IsNaN(f):
		return 2, nil
	case math.IsInf(f, 0):
		return int(math.Copysign(1, f)), nil
	}
	return 0, new(big.Rat).SetFloat64(f)
}

// rank tells apart numbers of one value: an integer, -0, any other float.
func rank(t api.Term) int {
	switch {
	case t.Kind != api.Float:
		return 0
	case t.Bits == 1<<63:
		return 1
	}
	return 2
}

func expectedOfNumbers(a api.Term, b api.Term) int {
	i, x := exact(a)
	k, y := exact(b)
	if i != k {
		return sign(i - k)
	}
	if i == 0 && x.Cmp(y) != 0 {
		return x.Cmp(y)
	}
	return sign(rank(a) - rank(b))
}

var classOf = map[int]int{api.Int: 1, api.Big: 1, api.Float: 1, api.Atom: 2, api.Pid: 3, api.Tuple: 4, api.Nil: 5, api.Cons: 6, api.Binary: 7}

// expected is the order of valid terms by the words of the chapter.
func expected(a api.Term, b api.Term) int {
	if d := classOf[a.Kind] - classOf[b.Kind]; d != 0 {
		return sign(d)
	}
	switch classOf[a.Kind] {
	case 1:
		return expectedOfNumbers(a, b)
	case 4, 6:
		for i := 0; len(a.Args) == len(b.Args) && i < len(a.Args); i++ {
			if d := expected(a.Args[i], b.Args[i]); d != 0 {
				return d
			}
		}
		return sign(len(a.Args) - len(b.Args))
	case 7:
		for i := 0; i < len(a.Bytes) && i < len(b.Bytes); i++ {
			if a.Bytes[i] != b.Bytes[i] {
				return sign(int(a.Bytes[i]) - int(b.Bytes[i]))
			}
		}
		return sign(len(a.Bytes) - len(b.Bytes))
	}
	return sign(a.N - b.N)
}

func sign(n int) int {
	switch {
	case n < 0:
		return -1
	case n > 0:
		return 1
	}
	return 0
}

// numbers are powers of 2, what lies beside them, and the edges of floats.
func numbers() []api.Term {
	made := []api.Term{whole(0), float(0), float(math.Copysign(0, -1)), nan()}
	addFloat := func(f float64) {
		made = append(made, float(f), float(-f))
	}
	for _, f := range []float64{math.Inf(1), math.MaxFloat64, math.SmallestNonzeroFloat64, 0x1p-1022, 0.1, 0.5, 1.5, math.Pi, 1e22, 1e300} {
		addFloat(f)
	}
	for _, n := range []uint{0, 1, 2, 31, 32, 33, 52, 53, 54, 59, 60, 61, 62, 63, 64, 65, 95, 96, 128, 200, 224, 255} {
		for more := int64(-1); more <= 1; more++ {
			x := new(big.Int).Add(new(big.Int).Lsh(big.NewInt(1), n), big.NewInt(more))
			made = append(made, ofBig(x), ofBig(new(big.Int).Neg(x)))
		}
		f := math.Ldexp(1, int(n))
		addFloat(f)
		addFloat(math.Nextafter(f, 0))
		addFloat(math.Nextafter(f, math.Inf(1)))
	}
	addFloat(math.Ldexp(1, 256))
	top := new(big.Int).Sub(new(big.Int).Lsh(big.NewInt(1), 256), big.NewInt(1))
	made = append(made, ofBig(top), ofBig(new(big.Int).Neg(top)))
	slices.SortFunc(made, expectedOfNumbers)
	return slices.CompactFunc(made, func(a, b api.Term) bool { return expectedOfNumbers(a, b) == 0 })
}

// random makes a term of few different parts, so that many begin alike.
func random(r *rand.Rand, depth int) api.Term {
	kinds := 9
	if depth == 0 {
		kinds = 7
	}
	switch r.Intn(kinds) {
	case 0:
		return whole(r.Intn(5) - 2)
	case 1:
		return large(r.Intn(2) == 0, uint32(r.Intn(2)), 1<<29, uint32(1+r.Intn(2)))
	case 2:
		return []api.Term{float(float64(r.Intn(5) - 2)), float(math.Copysign(0, -1)), nan(), float(math.Inf(1 - 2*r.Intn(2)))}[r.Intn(4)]
	case 3:
		return atom(r.Intn(3))
	case 4:
		return pid(r.Intn(3))
	case 5:
		return null()
	case 6:
		return binary(strings.Repeat("\x00", r.Intn(2)) + strings.Repeat("\xff", r.Intn(2)) + strings.Repeat("a", r.Intn(3)))
	case 7:
		return cons(random(r, depth-1), random(r, depth-1))
	}
	args := make([]api.Term, r.Intn(4))
	for i := range args {
		args[i] = random(r, depth-1)
	}
	return tuple(args...)
}

func randoms(seed int64, many int) []api.Term {
	r := rand.New(rand.NewSource(seed))
	made := make([]api.Term, many)
	for i := range made {
		made[i] = random(r, 3)
	}
	return made
}
