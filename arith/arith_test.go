package arith_test

import (
	"math"
	"math/big"
	"reflect"
	"slices"
	"strings"
	"sync"
	"testing"

	"beehive/api"
	"beehive/arith"
	"beehive/term"
)

type example struct {
	op         int
	a, b, want api.Term
}

func check(t *testing.T, rows ...example) {
	t.Helper()
	for i, x := range rows {
		if got, reason := arith.Do(x.op, x.a, x.b); reason != -1 || !reflect.DeepEqual(got, x.want) {
			t.Errorf("P6.1: the example %d, %s(%v, %v): %v, %d", i, names[x.op], x.a, x.b, got, reason)
		}
	}
}

func checkFails(t *testing.T, name string, op int, a api.Term, b api.Term) {
	t.Helper()
	if got, reason := arith.Do(op, a, b); reason != api.BadArith || !reflect.DeepEqual(got, api.Term{}) {
		t.Errorf("P6.1: %s, operation %d: %v, %d", name, op, got, reason)
	}
}

func checkPairs(t *testing.T, as []api.Term, bs []api.Term) {
	t.Helper()
	for _, a := range as {
		for _, b := range bs {
			for _, op := range operations {
				want, why := expected(op, a, b)
				got, reason := arith.Do(op, a, b)
				if reason != why || !reflect.DeepEqual(got, want) {
					t.Errorf("P6.1: %s(%v, %v): %v, %d, not %v, %d", names[op], a, b, got, reason, want, why)
				}
				if reason == -1 && !term.May(got) {
					t.Errorf("P6.1: %s(%v, %v) is not valid: %v", names[op], a, b, got)
				}
			}
		}
	}
}

func TestPairsAreValid(t *testing.T) {
	for _, x := range numbers() {
		if !term.May(x) {
			t.Errorf("a number of the tests is not valid: %v", x)
		}
	}
}

func TestIntegers(t *testing.T) { checkPairs(t, integers(), integers()) }

func TestFloats(t *testing.T) { checkPairs(t, floats(), floats()) }

func TestAnIntegerBesideAFloat(t *testing.T) {
	checkPairs(t, integers(), floats())
	checkPairs(t, floats(), integers())
}

func TestSmallAndLargeResults(t *testing.T) {
	above, below := large(false, 0, 1<<28), large(true, 1, 1<<28)
	check(t,
		example{api.OpAdd, whole(2), whole(3), whole(5)},
		example{api.OpSub, whole(2), whole(3), whole(-1)},
		example{api.OpMul, whole(-2), whole(3), whole(-6)},
		example{api.OpMul, whole(-2), whole(-3), whole(6)},
		example{api.OpMul, whole(0), whole(-3), whole(0)},
		example{api.OpAdd, whole(-3), whole(3), whole(0)},
		example{api.OpAdd, whole(api.Greatest), whole(0), whole(api.Greatest)},
		example{api.OpAdd, whole(api.Greatest), whole(1), above},
		example{api.OpSub, above, whole(1), whole(api.Greatest)},
		example{api.OpSub, whole(api.Greatest), whole(-1), above},
		example{api.OpAdd, whole(api.Least), whole(0), whole(api.Least)},
		example{api.OpSub, whole(api.Least), whole(1), below},
		example{api.OpAdd, below, whole(1), whole(api.Least)},
		example{api.OpMul, whole(api.Least), whole(-1), above},
		example{api.OpMul, above, whole(-1), whole(api.Least)},
		example{api.OpMul, above, whole(0), whole(0)},
		example{api.OpSub, above, above, whole(0)},
		example{api.OpAdd, above, below, whole(-1)},
		example{api.OpMul, whole(-1 << 40), whole(1 << 40), large(true, 0, 0, 65536)},
		example{api.OpMul, whole(api.Greatest), whole(api.Greatest), large(false, 1, 0xE0000000, math.MaxUint32, 0xFFFFFF)},
	)
}

func ofPower(n uint, plus int64) api.Term { return ofBig(power(n, plus)) }

func TestAsManyLimbsAsMayBe(t *testing.T) {
	most, least := ofPower(256, -1), ofBig(minus(power(256, -1)))
	check(t,
		example{api.OpAdd, most, whole(0), most},
		example{api.OpAdd, ofPower(256, -2), whole(1), most},
		example{api.OpAdd, whole(1), ofPower(256, -2), most},
		example{api.OpAdd, ofPower(255, 0), ofPower(255, -1), most},
		example{api.OpSub, most, whole(0), most},
		example{api.OpSub, whole(0), most, least},
		example{api.OpSub, ofBig(minus(power(256, -2))), whole(1), least},
		example{api.OpSub, most, most, whole(0)},
		example{api.OpAdd, most, least, whole(0)},
		example{api.OpAdd, least, whole(1), ofBig(minus(power(256, -2)))},
		example{api.OpMul, most, whole(1), most},
		example{api.OpMul, whole(-1), most, least},
		example{api.OpMul, least, whole(-1), most},
		example{api.OpMul, most, whole(0), whole(0)},
		example{api.OpMul, ofPower(128, 0), ofPower(127, 0), ofPower(255, 0)},
		example{api.OpMul, ofPower(128, -1), ofPower(128, 1), most},
		example{api.OpMul, ofPower(224, 0), whole(math.MaxUint32), ofBig(new(big.Int).Sub(power(256, 0), power(224, 0)))},
	)
	for name, x := range map[string]struct {
		op   int
		a, b api.Term
	}{
		"one more":            {api.OpAdd, most, whole(1)},
		"one more before":     {api.OpAdd, whole(1), most},
		"two halves":          {api.OpAdd, ofPower(255, 0), ofPower(255, 0)},
		"twice the most":      {api.OpAdd, most, most},
		"one less":            {api.OpSub, least, whole(1)},
		"minus one less":      {api.OpSub, most, whole(-1)},
		"the most from below": {api.OpSub, least, most},
		"a power":             {api.OpMul, ofPower(128, 0), ofPower(128, 0)},
		"a power below 0":     {api.OpMul, ofPower(255, 0), whole(-2)},
		"the next power":      {api.OpMul, ofPower(196, 0), whole(api.Least)},
		"the square":          {api.OpMul, most, most},
	} {
		checkFails(t, name, x.op, x.a, x.b)
	}
}

// As floats, integers of any length have a result.
func TestFDivOfIntegers(t *testing.T) {
	most, plus := ofPower(256, -1), float(math.Inf(1))
	check(t,
		example{api.OpFDiv, whole(1), whole(0), plus},
		example{api.OpFDiv, whole(-1), whole(0), float(math.Inf(-1))},
		example{api.OpFDiv, whole(0), whole(0), nan()},
		example{api.OpFDiv, most, whole(0), plus},
		example{api.OpFDiv, whole(0), whole(5), float(0)},
		example{api.OpFDiv, whole(0), whole(-5), minusZero()},
		example{api.OpFDiv, whole(7), whole(2), float(3.5)},
		example{api.OpFDiv, whole(6), whole(-2), float(-3)},
		example{api.OpFDiv, whole(1), whole(3), float(1.0 / 3)},
		example{api.OpFDiv, whole(1<<53 + 1), whole(1), float(1 << 53)},
		example{api.OpFDiv, whole(1<<53 + 3), whole(1), float(1<<53 + 4)},
		example{api.OpFDiv, most, whole(1), float(0x1p256)},
		example{api.OpFDiv, most, most, float(1)},
		example{api.OpFDiv, whole(1), most, float(0x1p-256)},
	)
}

func TestEdgesOfFloats(t *testing.T) {
	plus, down, zero, most := float(math.Inf(1)), float(math.Inf(-1)), float(0), float(math.MaxFloat64)
	check(t,
		example{api.OpAdd, float(0.1), float(0.2), float(0.30000000000000004)},
		example{api.OpAdd, minusZero(), minusZero(), minusZero()},
		example{api.OpAdd, minusZero(), zero, zero},
		example{api.OpSub, zero, zero, zero},
		example{api.OpSub, minusZero(), zero, minusZero()},
		example{api.OpMul, zero, minusZero(), minusZero()},
		example{api.OpMul, minusZero(), minusZero(), zero},
		example{api.OpFDiv, float(1), minusZero(), down},
		example{api.OpFDiv, zero, minusZero(), nan()},
		example{api.OpAdd, plus, down, nan()},
		example{api.OpSub, plus, plus, nan()},
		example{api.OpMul, zero, plus, nan()},
		example{api.OpFDiv, plus, down, nan()},
		example{api.OpFDiv, float(1), down, minusZero()},
		example{api.OpAdd, most, most, plus},
		example{api.OpMul, most, float(-2), down},
		example{api.OpFDiv, float(math.SmallestNonzeroFloat64), float(2), zero},
		example{api.OpAdd, nan(), float(1), nan()},
		example{api.OpSub, float(1), nan(), nan()},
		example{api.OpMul, nan(), zero, nan()},
		example{api.OpFDiv, nan(), nan(), nan()},
	)
}

// A float stays one, whatever its value, and an integer has no minus zero.
func TestEdgesOfBoth(t *testing.T) {
	most := ofPower(256, -1)
	check(t,
		example{api.OpAdd, whole(1), float(0.5), float(1.5)},
		example{api.OpSub, float(0.5), whole(1), float(-0.5)},
		example{api.OpSub, whole(1), float(0.5), float(0.5)},
		example{api.OpAdd, whole(1), float(1), float(2)},
		example{api.OpMul, float(0), whole(-3), minusZero()},
		example{api.OpMul, whole(0), float(-3), minusZero()},
		example{api.OpAdd, whole(0), minusZero(), float(0)},
		example{api.OpSub, minusZero(), whole(0), minusZero()},
		example{api.OpFDiv, whole(-1), minusZero(), float(math.Inf(1))},
		example{api.OpFDiv, float(1), whole(0), float(math.Inf(1))},
		example{api.OpMul, whole(0), float(math.Inf(1)), nan()},
		example{api.OpAdd, nan(), whole(1), nan()},
		example{api.OpAdd, whole(1<<53 + 1), float(0), float(1 << 53)},
		example{api.OpAdd, float(1), whole(1<<53 + 1), float(1 << 53)},
		example{api.OpAdd, most, float(0), float(0x1p256)},
		example{api.OpMul, float(2), most, float(0x1p257)},
		example{api.OpMul, most, float(0), float(0)},
		example{api.OpSub, most, float(0x1p256), float(0)},
		example{api.OpSub, float(0), most, float(-0x1p256)},
	)
}

func TestNoOperation(t *testing.T) {
	ops := []int{-1, -5, math.MinInt, math.MaxInt, api.OpAdd + 1<<8, api.OpSub + 1<<16, api.OpMul + 1<<32, -api.OpFDiv, api.OpTrim + 1, 1000}
	for op := range api.OpTrim + 1 {
		if !slices.Contains(operations, op) {
			ops = append(ops, op)
		}
	}
	pairs := []api.Term{whole(1), whole(0), large(false, 1, 2, 3), float(1.5), nan(), atom(1), {}}
	for _, op := range ops {
		for _, a := range pairs {
			for _, b := range pairs {
				checkFails(t, "no operation", op, a, b)
			}
		}
	}
}

// checkOperand holds that an operand fails beside every kind of number, on
// either side and beside itself.
func checkOperand(t *testing.T, name string, wrong api.Term) {
	t.Helper()
	for _, op := range operations {
		for _, x := range []api.Term{whole(0), whole(1), large(true, 1, 2, 3), float(0), float(math.Inf(1)), nan(), wrong} {
			checkFails(t, name, op, wrong, x)
			checkFails(t, name, op, x, wrong)
		}
	}
}

func TestNoNumbers(t *testing.T) {
	for name, x := range map[string]api.Term{
		"an Atom":               atom(1),
		"the Atom 0":            atom(0),
		"a Pid":                 {Kind: api.Pid, N: 2},
		"an empty Tuple":        tuple(),
		"a Tuple":               tuple(whole(1)),
		"Nil":                   null(),
		"a Cons":                cons(whole(1), null()),
		"an empty Binary":       {Kind: api.Binary},
		"a Binary":              {Kind: api.Binary, Bytes: "12"},
		"a zero term":           {},
		"no kind":               {Kind: 10, N: 1},
		"no kind below 0":       {Kind: -1, N: 1},
		"a kind that wraps":     {Kind: api.Int + 1<<32, N: 1},
		"no kind with limbs":    {Num: api.Num{Mag: []uint32{1, 2, 3}}},
		"no kind with bits":     {Bits: math.Float64bits(1)},
		"a wrong Atom":          atom(-1),
		"a term that shares":    doubled(1000, whole(1)),
		"an endless term":       endless(),
		"a Tuple of many":       tuple(make([]api.Term, 1<<16)...),
		"a Binary of too many":  {Kind: api.Binary, Bytes: strings.Repeat("a", 1<<20)},
		"a Tuple with a number": {Kind: api.Tuple, N: 1, Bits: 1, Num: api.Num{Mag: []uint32{1, 2, 3}}},
	} {
		checkOperand(t, name, x)
	}
}

func with(x api.Term, change func(*api.Term)) api.Term {
	change(&x)
	return x
}

func TestNumbersThatAreNotValid(t *testing.T) {
	all := map[string]api.Term{
		"above Greatest":       whole(api.Greatest + 1),
		"below Least":          whole(api.Least - 1),
		"the greatest int":     whole(math.MaxInt),
		"the least int":        whole(math.MinInt),
		"a Big of 0":           large(false),
		"a Big of 1":           large(false, 1),
		"a Big of Greatest":    large(false, math.MaxUint32, 1<<28-1),
		"a Big of Least":       large(true, 0, 1<<28),
		"a Big of minus 0":     large(true),
		"a last limb of 0":     large(false, 1, 2, 3, 0),
		"limbs of 0":           large(true, 0, 0, 0),
		"nine limbs":           large(false, 1, 2, 3, 4, 5, 6, 7, 8, 9),
		"nine limbs, the last": large(false, 1, 2, 3, 4, 5, 6, 7, 8, 0),
		"many limbs":           large(true, slices.Repeat([]uint32{1}, 1<<16)...),
	}
	for name, bits := range map[string]uint64{
		"the NaN below":  api.NaN - 1,
		"the NaN above":  api.NaN + 1,
		"a NaN below 0":  api.NaN | 1<<63,
		"a signaling":    0x7FF0000000000001,
		"NaN's last one": math.MaxUint64,
	} {
		all[name] = api.Term{Kind: api.Float, Bits: bits}
	}
	for name, x := range map[string]api.Term{"Int": whole(1), "the Int 0": whole(0), "Big": large(false, 1, 2, 3), "Float": float(1.5), "the Float 0": float(0)} {
		if x.Kind != api.Int {
			all[name+" with N"] = with(x, func(x *api.Term) { x.N = 1 })
		}
		if x.Kind != api.Big {
			all[name+" with limbs"] = with(x, func(x *api.Term) { x.Num.Mag = []uint32{1, 2, 3} })
			all[name+" with a sign"] = with(x, func(x *api.Term) { x.Num.Neg = true })
		}
		if x.Kind != api.Float {
			all[name+" with bits"] = with(x, func(x *api.Term) { x.Bits = 1 })
		}
		all[name+" with bytes"] = with(x, func(x *api.Term) { x.Bytes = "\x00" })
		all[name+" with Args"] = with(x, func(x *api.Term) { x.Args = []api.Term{whole(1)} })
		all[name+" with a zero Arg"] = with(x, func(x *api.Term) { x.Args = []api.Term{{}} })
		all[name+" with shared Args"] = with(x, func(x *api.Term) { x.Args = doubled(1000, whole(1)).Args })
		all[name+" with endless Args"] = with(x, func(x *api.Term) { x.Args = endless().Args })
	}
	for name, x := range all {
		checkOperand(t, name, x)
	}
}

// An empty slice is as good as none.
func TestEmptySlices(t *testing.T) {
	for _, x := range []api.Term{whole(5), large(false, 1, 2, 3), float(1.5)} {
		y := x
		y.Args = []api.Term{}
		if y.Kind != api.Big {
			y.Num.Mag = []uint32{}
		}
		for _, op := range operations {
			for _, z := range []api.Term{whole(5), large(false, 1, 2, 3), float(1.5)} {
				want, why := expected(op, x, z)
				if got, reason := arith.Do(op, y, z); reason != why || !reflect.DeepEqual(got, want) {
					t.Errorf("P6.1: %s with empty slices: %v, %d", names[op], got, reason)
				}
				want, why = expected(op, z, x)
				if got, reason := arith.Do(op, z, y); reason != why || !reflect.DeepEqual(got, want) {
					t.Errorf("P6.1: %s with empty slices behind: %v, %d", names[op], got, reason)
				}
			}
		}
	}
}

// roomy has limbs whose unused capacity shows a write.
func roomy(neg bool, mag ...uint32) api.Term {
	room := append(slices.Clone(mag), 77, 78, 79)
	return large(neg, room[:len(mag)]...)
}

// open shows the limbs up to their capacity, in memory of its own.
func open(t api.Term) []uint32 { return slices.Clone(t.Num.Mag[:cap(t.Num.Mag)]) }

func spoil(t api.Term) {
	limbs := t.Num.Mag[:cap(t.Num.Mag)]
	for i := range limbs {
		limbs[i] = 1234
	}
}

func operands() []api.Term {
	return []api.Term{
		roomy(false, 1, 2, 3), roomy(true, 1, 2, 3), roomy(false, 9, 9, 9, 9), roomy(false, slices.Repeat([]uint32{math.MaxUint32}, api.MaxLimbs)...),
		// Not valid ones stay as they are too.
		roomy(false, 1, 2, 3, 0), roomy(false, 1),
		whole(0), whole(1), whole(-1), float(1), atom(1),
	}
}

func TestNothingIsChangedOrShared(t *testing.T) {
	for _, op := range append([]int{0}, operations...) {
		for i := range operands() {
			for k := range operands() {
				a, b := operands()[i], operands()[k]
				got, _ := arith.Do(op, a, b)
				again, _ := arith.Do(op, a, b)
				kept := open(got)
				if !reflect.DeepEqual(open(a), open(operands()[i])) || !reflect.DeepEqual(open(b), open(operands()[k])) {
					t.Errorf("R4: operation %d changes the operands %d and %d", op, i, k)
				}
				spoil(a)
				spoil(b)
				spoil(again)
				if !reflect.DeepEqual(open(got), kept) {
					t.Errorf("R4: the result of operation %d on the operands %d and %d shares memory", op, i, k)
				}
			}
		}
	}
}

func TestResultsLeaveOperands(t *testing.T) {
	for _, op := range operations {
		for i := range operands() {
			for k := range operands() {
				a, b := operands()[i], operands()[k]
				got, _ := arith.Do(op, a, b)
				spoil(got)
				if !reflect.DeepEqual(open(a), open(operands()[i])) || !reflect.DeepEqual(open(b), open(operands()[k])) {
					t.Errorf("R4: the result of operation %d on the operands %d and %d shares memory with one", op, i, k)
				}
			}
		}
		// One term on both sides is two operands.
		both := roomy(true, 1, 2, 3)
		want, _ := expected(op, both, both)
		got, _ := arith.Do(op, both, both)
		spoil(both)
		if !reflect.DeepEqual(got, want) {
			t.Errorf("R4: the result of operation %d on one term twice: %v", op, got)
		}
	}
}

// A failure in one goroutine is none in another.
func TestManyAtOnce(t *testing.T) {
	var group sync.WaitGroup
	a, b := large(false, 1, 2, 3), ofPower(256, -1)
	for worker := range 8 {
		group.Go(func() {
			for k := range 500 {
				if (worker+k)%2 == 0 {
					checkFails(t, "at the same time", api.OpMul, a, b)
				} else {
					check(t, example{api.OpSub, a, a, whole(0)}, example{api.OpFDiv, b, b, float(1)})
				}
			}
		})
	}
	group.Wait()
}
