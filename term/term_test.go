package term_test

import (
	"math"
	"math/big"
	"reflect"
	"slices"
	"strings"
	"testing"

	"beehive/api"
	"beehive/num"
	"beehive/term"
)

func atom(n int) api.Term { return api.Term{Kind: api.Atom, N: n} }

func binary(n int) api.Term {
	return api.Term{Kind: api.Binary, Bytes: strings.Repeat("x", n)}
}

func limbs(neg bool, mag ...uint32) api.Num { return api.Num{Neg: neg, Mag: mag} }

func large(neg bool, mag ...uint32) api.Term {
	return api.Term{Kind: api.Big, Num: limbs(neg, mag...)}
}

func tuple(ts ...api.Term) api.Term { return api.Term{Kind: api.Tuple, Args: ts} }

func cons(ts ...api.Term) api.Term { return api.Term{Kind: api.Cons, Args: ts} }

func null() api.Term { return api.Term{Kind: api.Nil} }

func list(ts ...api.Term) api.Term {
	made := null()
	for i := len(ts) - 1; i >= 0; i-- {
		made = cons(ts[i], made)
	}
	return made
}

func times(n int, t api.Term) []api.Term {
	made := make([]api.Term, n)
	for i := range made {
		made[i] = t
	}
	return made
}

func nested(levels int, inner api.Term) api.Term {
	for range levels {
		inner = tuple(inner)
	}
	return inner
}

// doubled has 2 to the levels-th inner terms: both Args of a Cons are one.
func doubled(levels int, inner api.Term) api.Term {
	for range levels {
		inner = cons(inner, inner)
	}
	return inner
}

// endless is a tuple that is its own last Arg.
func endless(first api.Term) api.Term {
	args := []api.Term{first, {}}
	args[1] = tuple(args...)
	return args[1]
}

func full(kind int) api.Term {
	return api.Term{Kind: kind, N: 7, Num: limbs(true, 1, 2, 3), Bits: 1, Bytes: "full", Args: []api.Term{atom(1), atom(2)}}
}

type judged struct {
	name string
	t    api.Term
	want bool
}

func checkMay(t *testing.T, rows []judged) {
	t.Helper()
	for _, x := range rows {
		if got := term.May(x.t); got != x.want {
			t.Errorf("P4.1: May of %s is %v", x.name, got)
		}
	}
}

func TestMayOfNumbers(t *testing.T) {
	const top, full = 1 << 28, math.MaxUint32
	at := func(n int) api.Term { return api.Term{Kind: api.Int, N: n} }
	float := func(bits uint64) api.Term { return api.Term{Kind: api.Float, Bits: bits} }
	checkMay(t, []judged{
		{"Int 0", at(0), true},
		{"Greatest", at(api.Greatest), true},
		{"Greatest + 1", at(api.Greatest + 1), false},
		{"Least", at(api.Least), true},
		{"Least - 1", at(api.Least - 1), false},
		{"the greatest int", at(math.MaxInt), false},
		{"the least int", at(math.MinInt), false},
		{"Big 0", large(false), false},
		{"Big 1", large(false, 1), false},
		{"Big Greatest", large(false, full, top-1), false},
		{"Big Greatest + 1", large(false, 0, top), true},
		{"Big Least", large(true, 0, top), false},
		{"Big Least - 1", large(true, 1, top), true},
		{"Big -1", large(true, 1), false},
		{"Big that is -0", large(true), false},
		{"Big that ends in 0", large(false, 1, top, 0), false},
		{"Big of zeros", large(false, 0, 0, 0), false},
		{"Big of MaxLimbs", large(true, full, full, full, full, full, full, full, full), true},
		{"Big of MaxLimbs + 1", large(false, 0, 0, 0, 0, 0, 0, 0, 0, 1), false},
		{"0.0", float(0), true},
		{"-0.0", float(1 << 63), true},
		{"infinity", float(math.Float64bits(math.Inf(1))), true},
		{"minus infinity", float(math.Float64bits(math.Inf(-1))), true},
		{"the least float above 0", float(1), true},
		{"NaN", float(api.NaN), true},
		{"another NaN", float(api.NaN + 1), false},
		{"a NaN with a sign", float(api.NaN | 1<<63), false},
		{"all bits", float(math.MaxUint64), false},
	})
}

func TestMayOfOtherKinds(t *testing.T) {
	pid := func(n int) api.Term { return api.Term{Kind: api.Pid, N: n} }
	checkMay(t, []judged{
		{"Atom 0", atom(0), true},
		{"Atom MaxAtom", atom(api.MaxAtom), true},
		{"Atom MaxAtom + 1", atom(api.MaxAtom + 1), false},
		{"Atom -1", atom(-1), false},
		{"Pid 0", pid(0), true},
		{"Pid MaxPid", pid(api.MaxPid), true},
		{"Pid MaxPid + 1", pid(api.MaxPid + 1), false},
		{"Pid -1", pid(-1), false},
		{"Tuple of 0", tuple(), true},
		{"Tuple of MaxTuple", tuple(times(api.MaxTuple, atom(1))...), true},
		{"Tuple of MaxTuple + 1", tuple(times(api.MaxTuple+1, atom(1))...), false},
		{"Nil", null(), true},
		{"Cons of 0", cons(), false},
		{"Cons of 1", cons(atom(1)), false},
		{"Cons of 2", cons(atom(1), atom(2)), true},
		{"Cons of 3", cons(atom(1), atom(2), atom(3)), false},
		{"Binary of 0", binary(0), true},
		{"Binary of MaxBytes", binary(api.MaxBytes), true},
		{"Binary of MaxBytes + 1", binary(api.MaxBytes + 1), false},
		{"Binary of bytes that are no text", api.Term{Kind: api.Binary, Bytes: "\xff\x00"}, true},
		{"a Tuple whose first Arg may not be", tuple(atom(-1), atom(1)), false},
		{"a Tuple whose last Arg may not be", tuple(atom(1), atom(-1)), false},
		{"a Cons whose head may not be", cons(binary(api.MaxBytes+1), null()), false},
		{"a Cons whose tail may not be", cons(null(), api.Term{}), false},
		{"a deep Arg that may not be", nested(200, cons(atom(1), tuple(null(), cons(null())))), false},
		{"a deep Arg with one field too many", nested(200, api.Term{Kind: api.Nil, N: 1}), false},
		{"all kinds in one", tuple(atom(1), pid(2), list(term.Int(3), large(false, 0, 0, 1)), binary(9), tuple()), true},
	})
	for _, kind := range []int{0, -1, 10, 256 + api.Nil, math.MaxInt, math.MinInt} {
		if term.May(api.Term{Kind: kind}) || term.May(tuple(api.Term{Kind: kind})) {
			t.Errorf("P4.1: May of kind %d", kind)
		}
	}
}

func TestMayByWeight(t *testing.T) {
	const most = api.MaxWeight
	checkMay(t, []judged{
		{"a list of weight 299", list(times(149, atom(1))...), true},
		{"a Tuple of weight 300", tuple(list(times(149, atom(1))...)), true},
		{"a list of weight 301", list(times(150, atom(1))...), false},
		{"nested, of weight 300", nested(most-1, atom(1)), true},
		{"nested, of weight 301", nested(most, atom(1)), false},
		{"nested 1000 levels", nested(1000, atom(1)), false},
		{"Binaries of weight 300", tuple(append(times(5, binary(api.MaxBytes)), binary(8*43))...), true},
		{"Binaries of weight 301", tuple(append(times(5, binary(api.MaxBytes)), binary(8*44-1), atom(1))...), false},
		{"Binaries of weight 307", tuple(times(6, binary(api.MaxBytes))...), false},
		{"doubled 7 times", doubled(7, atom(1)), true},
		{"doubled 8 times", doubled(8, atom(1)), false},
		{"doubled 1000 times", doubled(1000, atom(1)), false},
		{"a Tuple of 2^16", tuple(times(1<<16, atom(1))...), false},
		{"endless", endless(atom(1)), false},
		{"an Atom with Args that are doubled", api.Term{Kind: api.Atom, Args: doubled(1000, atom(1)).Args}, false},
	})
}

var fields = []string{"N", "Neg", "Mag", "Num", "Bits", "Bytes", "Args"}

// fieldsOf says for each kind which fields are mentioned.
var fieldsOf = map[int]string{api.Int: "N", api.Big: "Num", api.Float: "Bits", api.Atom: "N", api.Pid: "N", api.Tuple: "Args", api.Nil: "", api.Cons: "Args", api.Binary: "Bytes"}

func partOf(field string, of string) bool {
	return field == of || of == "Num" && (field == "Neg" || field == "Mag")
}

// with is t with one field of a full term.
func with(t api.Term, field string) api.Term {
	other := full(t.Kind)
	switch field {
	case "N":
		t.N = other.N
	case "Neg":
		t.Num.Neg = other.Num.Neg
	case "Mag":
		t.Num.Mag = other.Num.Mag
	case "Num":
		t.Num = other.Num
	case "Bits":
		t.Bits = other.Bits
	case "Bytes":
		t.Bytes = other.Bytes
	case "Args":
		t.Args = other.Args
	}
	return t
}

// plain is a valid term with something in the field that is mentioned.
func plain(kind int) api.Term { return with(api.Term{Kind: kind}, fieldsOf[kind]) }

// Each field that is not mentioned for its kind makes a term not valid, but
// not another one; each that is mentioned makes it another one.
func TestFieldsOfEveryKind(t *testing.T) {
	for kind, mentioned := range fieldsOf {
		plain := plain(kind)
		if !term.May(plain) {
			t.Errorf("P4.1: May of plain kind %d is false", kind)
		}
		for _, field := range fields {
			if partOf(field, mentioned) {
				continue
			}
			x := with(plain, field)
			if term.May(x) || term.May(tuple(x)) {
				t.Errorf("P4.1: May of kind %d with %s is true", kind, field)
			}
			if !term.Same(x, plain) || !term.Same(plain, x) || !term.Same(tuple(x), tuple(plain)) {
				t.Errorf("P4.1: kind %d with %s is not the same", kind, field)
			}
		}
		bare := api.Term{Kind: kind}
		for _, field := range fields {
			if !partOf(field, mentioned) {
				continue
			}
			x := with(bare, field)
			if term.Same(x, bare) || term.Same(bare, x) || term.Same(tuple(x), tuple(bare)) {
				t.Errorf("P4.1: kind %d is the same with %s and without", kind, field)
			}
		}
	}
}

func TestNilAndEmptySlicesAreEquivalent(t *testing.T) {
	for kind := range fieldsOf {
		plain := plain(kind)
		x := plain
		if len(x.Args) == 0 {
			x.Args = []api.Term{}
		}
		if len(x.Num.Mag) == 0 {
			x.Num.Mag = []uint32{}
		}
		if !term.May(x) || !term.Same(x, plain) || !term.Same(plain, x) {
			t.Errorf("P4.1: kind %d with empty slices", kind)
		}
	}
	none := tuple()
	none.Args = []api.Term{}
	if !term.May(none) || !term.Same(none, tuple()) || !term.Same(tuple(), none) {
		t.Error("P4.1: a Tuple of none")
	}
}

// distinct holds terms of which no two are the same.
func distinct() []api.Term {
	ts := []api.Term{{}, null(), tuple(), cons(), binary(0), binary(1), binary(api.MaxBytes), binary(api.MaxBytes + 1)}
	for _, kind := range []int{api.Int, api.Atom, api.Pid} {
		for _, n := range []int{0, 1, -1, math.MaxInt, math.MinInt} {
			ts = append(ts, api.Term{Kind: kind, N: n})
		}
	}
	for _, bits := range []uint64{0, 1 << 63, api.NaN, api.NaN + 1, math.MaxUint64} {
		ts = append(ts, api.Term{Kind: api.Float, Bits: bits})
	}
	ts = append(ts, large(false), large(true), large(false, 0), large(false, 0, 0), large(false, 1, 2, 3), large(true, 1, 2, 3), large(false, 3, 2, 1), large(false, 1, 2, 3, 0))
	ts = append(ts, tuple(atom(1)), tuple(atom(2)), tuple(atom(1), atom(2)), tuple(atom(2), atom(1)), cons(atom(1)), cons(atom(1), atom(2)), cons(atom(1), atom(2), atom(3)))
	ts = append(ts, list(atom(1)), list(atom(1), atom(1)), list(atom(1), atom(2)), tuple(null()), tuple(api.Term{}), tuple(tuple()), nested(299, null()), nested(300, null()), nested(1000, null()), nested(1000, atom(0)), nested(999, atom(0)))
	wide := times(1<<16, atom(1))
	odd := slices.Clone(wide)
	odd[1<<16-1] = atom(2)
	return append(ts, tuple(wide...), tuple(odd...), cons(wide...), tuple(wide[1:]...), list(wide[:500]...), list(wide[:501]...), list(odd[1<<16-500:]...))
}

func TestSameOfDistinctTerms(t *testing.T) {
	ts, others := distinct(), distinct()
	for i := range ts {
		for k := range others {
			if term.Same(ts[i], others[k]) != (i == k) {
				t.Errorf("P4.1: Same of the terms %d and %d is %v", i, k, i != k)
			}
		}
	}
}

func TestSameOfKindsThatAreNone(t *testing.T) {
	none := []api.Term{{}, full(0), full(10), {Kind: -1}, {Kind: math.MaxInt, N: 3}, {Kind: math.MinInt, Bytes: "x"}}
	for i, a := range none {
		for k, b := range none {
			if !term.Same(a, b) || !term.Same(tuple(a, null()), tuple(b, null())) || !term.Same(nested(400, a), nested(400, b)) {
				t.Errorf("P4.1: Same of the kinds that are none %d and %d is false", i, k)
			}
		}
		for kind := range fieldsOf {
			if b := full(kind); term.Same(a, b) || term.Same(b, a) || term.Same(tuple(a), tuple(b)) {
				t.Errorf("P4.1: Same of the kind that is none %d and kind %d is true", i, kind)
			}
		}
	}
}

// uneven is doubled, but one of its 2 to the levels-th inner terms, the last
// one that a walk meets, is another.
func uneven(levels int, inner api.Term, last api.Term) api.Term {
	odd := last
	for range levels {
		inner, odd = cons(inner, inner), cons(inner, odd)
	}
	return odd
}

// A walk over every part of these would never end.
func TestSameOfSharedParts(t *testing.T) {
	for _, x := range []struct {
		name string
		a, b api.Term
		want bool
	}{
		{"doubled", doubled(1000, atom(1)), doubled(1000, atom(1)), true},
		{"doubled, and a level more", doubled(999, atom(1)), doubled(1000, atom(1)), false},
		{"doubled, of others", doubled(1000, atom(1)), doubled(1000, atom(2)), false},
		{"doubled, the last one another", doubled(900, atom(1)), uneven(900, atom(1), atom(2)), false},
		{"both uneven", uneven(900, atom(1), atom(2)), uneven(900, atom(1), atom(2)), true},
		{"uneven that is even", doubled(900, atom(1)), uneven(900, atom(1), atom(1)), true},
		{"wide and shared", tuple(times(1<<15, doubled(500, null()))...), tuple(times(1<<15, doubled(500, null()))...), true},
		{"wide, one another", tuple(append(times(1<<15, doubled(500, null())), null())...), tuple(append(times(1<<15, doubled(500, null())), tuple())...), false},
		{"more than one place a term", tuple(doubled(500, null()), doubled(500, null())), tuple(times(2, doubled(500, null()))...), true},
		{"pieces of one slice", pieces(300, atom(3)), pieces(300, atom(3)), true},
		{"pieces of one slice, the longest of others", pieces(300, atom(3)), pieces(300, atom(4)), false},
		{"endless", endless(atom(1)), endless(atom(1)), true},
		{"endless, of others", endless(atom(1)), endless(atom(2)), false},
	} {
		if term.Same(x.a, x.b) != x.want || term.Same(x.b, x.a) != x.want {
			t.Errorf("P4.1: Same of terms that are %s is not %v", x.name, x.want)
		}
		if !term.Same(x.a, x.a) || !term.Same(x.b, x.b) {
			t.Errorf("P4.1: terms that are %s are not the same as themselves", x.name)
		}
	}
}

// pieces has Args that begin at one place, but are not equally many: only the
// longest of them have the last term.
func pieces(levels int, last api.Term) api.Term {
	args := []api.Term{atom(1), atom(2), last}
	return nested(levels, tuple(tuple(args[:1]...), tuple(args[:2]...), tuple(args...)))
}

func ofBig(x *big.Int) api.Num {
	made := api.Num{Neg: x.Sign() < 0}
	rest, limb := new(big.Int).Abs(x), big.NewInt(math.MaxUint32)
	for rest.Sign() > 0 {
		made.Mag = append(made.Mag, uint32(new(big.Int).And(rest, limb).Uint64()))
		rest.Rsh(rest, 32)
	}
	return made
}

// power is 2 to the n-th and some more.
func power(n uint, more int64) *big.Int {
	return new(big.Int).Add(new(big.Int).Lsh(big.NewInt(1), n), big.NewInt(more))
}

// expected is the term of x by the bounds of the chapter.
func expected(x *big.Int) api.Term {
	if x.Cmp(big.NewInt(api.Least)) >= 0 && x.Cmp(big.NewInt(api.Greatest)) <= 0 {
		return api.Term{Kind: api.Int, N: int(x.Int64())}
	}
	return api.Term{Kind: api.Big, Num: ofBig(x)}
}

func TestOfNumAndNum(t *testing.T) {
	for n := range uint(256) {
		for more := int64(-3); more <= 3; more++ {
			x := power(n, more)
			if n == 255 && more >= 0 {
				x = new(big.Int).Sub(power(256, 0), big.NewInt(1+more))
			}
			for _, y := range []*big.Int{x, new(big.Int).Neg(x)} {
				want := expected(y)
				got, ok := term.OfNum(ofBig(y))
				if !ok || !reflect.DeepEqual(got, want) || !term.May(got) {
					t.Errorf("P4.2: OfNum(%v) is %v, %v", y, got, ok)
				}
				back, ok := term.Num(want)
				if !ok || back.Neg != (y.Sign() < 0) || !slices.Equal(back.Mag, ofBig(y).Mag) {
					t.Errorf("P4.2: Num of %v is %v, %v", y, back, ok)
				}
			}
		}
	}
}

func TestWrongNumbers(t *testing.T) {
	for _, x := range []api.Num{limbs(true), limbs(false, 0), limbs(true, 0), limbs(false, 5, 0), limbs(true, 0, 1<<28, 0), limbs(false, 1, 1, 1, 1, 1, 1, 1, 1, 1), limbs(false, 1, 0, 0, 0, 0, 0, 0, 0, 0), limbs(false, make([]uint32, 1<<16)...)} {
		if got, ok := term.OfNum(x); ok || !reflect.DeepEqual(got, api.Term{}) {
			t.Errorf("P4.2: OfNum(%v) is %v, %v", x, got, ok)
		}
	}
	wrong := []api.Term{{}, atom(3), {Kind: api.Pid, N: 3}, {Kind: api.Float}, null(), tuple(), tuple(term.Int(1)), list(term.Int(1)), binary(3), doubled(1000, term.Int(1)), {Kind: 10, N: 1},
		{Kind: api.Int, N: api.Least - 1}, {Kind: api.Int, N: api.Greatest + 1}, {Kind: api.Int, N: 1, Bits: 1}, {Kind: api.Int, Num: limbs(false, 1)}, full(api.Int),
		large(false), large(true), large(false, 3), large(true, 0, 1<<28), large(false, math.MaxUint32, 1<<28-1), large(false, 0, 1<<28, 0), large(false, 1, 1, 1, 1, 1, 1, 1, 1, 1), full(api.Big), full(api.Atom), full(api.Binary)}
	for i, x := range wrong {
		if got, ok := term.Num(x); ok || !reflect.DeepEqual(got, api.Num{}) {
			t.Errorf("P4.2: Num of the wrong term %d is %v, %v", i, got, ok)
		}
	}
}

func TestIntAndAtom(t *testing.T) {
	for _, n := range []int{0, 1, -1, 5, -5, 1 << 32, -1 << 32, api.Greatest - 1, api.Greatest, api.Greatest + 1, api.Least + 1, api.Least, api.Least - 1, math.MaxInt, math.MinInt, math.MinInt + 1} {
		if got := term.Int(n); !reflect.DeepEqual(got, expected(big.NewInt(int64(n)))) || !term.May(got) {
			t.Errorf("P4.2: Int(%d) is %v", n, got)
		}
		if got := term.Atom(n); !reflect.DeepEqual(got, atom(n)) || term.May(got) != (n >= 0 && n <= api.MaxAtom) {
			t.Errorf("P4.2: Atom(%d) is %v", n, got)
		}
	}
}

func TestList(t *testing.T) {
	one := term.List(term.Int(1))
	if one.Kind != api.Cons || len(one.Args) != 2 || !reflect.DeepEqual(one.Args[0], term.Int(1)) || one.Args[1].Kind != api.Nil {
		t.Errorf("P4.2: the chapter's example is %v", one)
	}
	some := []api.Term{atom(-3), full(api.Int), full(0), {}, large(false, 0, 0, 7), binary(500), tuple(null(), full(api.Cons)), list(atom(1), atom(2)), cons(), heaped(3)}
	for _, ts := range [][]api.Term{nil, {}, {atom(1)}, {atom(1), atom(2)}, {null()}, {term.List()}, {list(atom(1)), atom(2)}, some, times(149, atom(7)), times(1<<16, atom(7))} {
		got, want := term.List(ts...), list(ts...)
		for len(ts) > 1000 && got.Kind == api.Cons && want.Kind == api.Cons {
			if !reflect.DeepEqual(got.Args[0], want.Args[0]) {
				t.Fatal("P4.2: a long list")
			}
			got, want = got.Args[1], want.Args[1]
		}
		if !reflect.DeepEqual(got, want) {
			t.Errorf("P4.2: List of %v is %v", ts, got)
		}
	}
	if term.List().Kind != api.Nil || !term.May(term.List()) {
		t.Error("P4.2: the list of none")
	}
}

// heaped has something in every field, level by level.
func heaped(levels int) api.Term {
	made := full(api.Nil)
	for i := range levels {
		made.Args = []api.Term{made, full(i), full(api.Big)}
	}
	return made
}

// A copy of every part of these, each as often as it is reached, would never end.
func TestListOfSharedParts(t *testing.T) {
	hidden := api.Term{Kind: api.Float, Args: doubled(1000, atom(1)).Args}
	for i, x := range []api.Term{doubled(1000, atom(1)), uneven(900, atom(1), atom(2)), endless(atom(1)), hidden, nested(1000, atom(1)), tuple(times(1<<16, atom(1))...), tuple(times(1<<15, doubled(500, null()))...)} {
		got := term.List(x, x)
		if !term.Same(got, list(x, x)) || len(got.Args[0].Args) != len(x.Args) {
			t.Errorf("P4.2: List of the shared term %d is another", i)
		}
		before := x.Args[0].Kind
		got.Args[0].Args[0].Kind = 77
		if x.Args[0].Kind != before {
			t.Errorf("R4: List of the shared term %d shares memory with it", i)
		}
	}
}

// ragged is a term of every kind with limbs and Args inside Args, in slices
// whose unused capacity shows a write.
func ragged() []api.Term {
	deep := func() api.Term {
		x := full(api.Tuple)
		x.Args = roomy(full(api.Big), tuple(roomy(large(false, 4, 5, 6), full(api.Atom))...))
		return x
	}
	return roomy(deep(), list(roomy(deep(), full(10))...), full(api.Int), large(true, 9, 9, 9))
}

func roomy(ts ...api.Term) []api.Term {
	whole := append(slices.Clone(ts), full(11), full(12))
	return whole[:len(ts)]
}

// spoil writes into all that a term reaches, up to the capacities.
func spoil(ts []api.Term) {
	whole := ts[:cap(ts)]
	for i := range whole {
		mag := whole[i].Num.Mag[:cap(whole[i].Num.Mag)]
		for k := range mag {
			mag[k] = 1234
		}
		spoil(whole[i].Args)
		whole[i] = api.Term{Kind: 99, Bytes: "spoilt"}
	}
}

func TestNothingIsChanged(t *testing.T) {
	ts, before := ragged(), ragged()
	for i := range ts {
		term.May(ts[i])
		term.Num(ts[i])
		term.OfNum(ts[i].Num)
		for k := range ts {
			term.Same(ts[i], before[k])
			term.Same(before[k], ts[i])
		}
	}
	spoil([]api.Term{term.List(ts...)})
	if !reflect.DeepEqual(ts[:cap(ts)], before[:cap(before)]) || !reflect.DeepEqual(before, ragged()) {
		t.Error("R4: an argument has changed, or a result shares memory with one")
	}
}

func TestNothingIsShared(t *testing.T) {
	ts := ragged()
	got, other := term.List(ts...), term.List(ts...)
	spoil(ts)
	if want := list(ragged()...); !reflect.DeepEqual(got, want) || !reflect.DeepEqual(other, want) {
		t.Error("R4: List keeps an argument")
	}
	spoil([]api.Term{other})
	if !reflect.DeepEqual(got, list(ragged()...)) {
		t.Error("R4: two lists share memory")
	}
	one := ragged()[0]
	twice := term.List(one, one)
	spoil(twice.Args[:1:1])
	if !reflect.DeepEqual(twice.Args[1], list(ragged()[0])) {
		t.Error("R4: two members of a list share memory")
	}
}

func TestNoLimbsAreShared(t *testing.T) {
	x := limbs(true, 1, 2, 3)
	a, _ := term.OfNum(x)
	b, _ := term.OfNum(x)
	c, _ := term.Num(a)
	d, _ := term.Num(a)
	all := []api.Num{x, a.Num, b.Num, c, d}
	for i := range all {
		for k := range all {
			if k != i {
				all[k].Mag[0] = 1
			}
		}
		all[i].Mag[0] = 7
		for k := range all {
			if k != i && all[k].Mag[0] != 1 {
				t.Errorf("R4: the integers %d and %d share memory", i, k)
			}
		}
	}
	first := term.Int(math.MaxInt)
	first.Num.Mag[0] = 7
	if !reflect.DeepEqual(term.Int(math.MaxInt), expected(big.NewInt(math.MaxInt))) || !reflect.DeepEqual(num.Of(1), limbs(false, 1)) {
		t.Error("R4: results of Int share memory")
	}
}
