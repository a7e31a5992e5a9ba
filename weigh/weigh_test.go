package weigh_test

import (
	"math"
	"reflect"
	"strings"
	"testing"

	"beehive/api"
	"beehive/weigh"
)

func atom(n int) api.Term { return api.Term{Kind: api.Atom, N: n} }

func binary(n int) api.Term {
	return api.Term{Kind: api.Binary, Bytes: strings.Repeat("x", n)}
}

func integer(limbs int) api.Term {
	return api.Term{Kind: api.Big, Num: api.Num{Neg: limbs%2 == 1, Mag: make([]uint32, limbs)}}
}

func tuple(ts ...api.Term) api.Term { return api.Term{Kind: api.Tuple, Args: ts} }

func cons(ts ...api.Term) api.Term { return api.Term{Kind: api.Cons, Args: ts} }

func list(ts ...api.Term) api.Term {
	made := api.Term{Kind: api.Nil}
	for i := len(ts) - 1; i >= 0; i-- {
		made = cons(ts[i], made)
	}
	return made
}

func atoms(n int) []api.Term {
	made := make([]api.Term, n)
	for i := range made {
		made[i] = atom(i)
	}
	return made
}

// nested is an atom in a tuple of one, in a tuple of one, and so on.
func nested(levels int) api.Term {
	made := atom(0)
	for range levels {
		made = tuple(made)
	}
	return made
}

// doubled has 2 to the levels-th atoms: both Args of each Cons are one term.
func doubled(levels int) api.Term {
	made := atom(0)
	for range levels {
		made = cons(made, made)
	}
	return made
}

// shared has every Arg of every tuple in common with the others.
func shared(levels int, wide int) api.Term {
	made := atom(0)
	for range levels {
		args := make([]api.Term, wide)
		for i := range args {
			args[i] = made
		}
		made = tuple(args...)
	}
	return made
}

// endless is a tuple that is its own last Arg.
func endless() api.Term {
	args := []api.Term{atom(1), {}}
	args[1] = tuple(args...)
	args[1].Args = args
	return args[1]
}

// full has something in every field.
func full(kind int) api.Term {
	return api.Term{Kind: kind, N: -7, Num: api.Num{Neg: true, Mag: []uint32{1, 2, 3}}, Bits: math.MaxUint64, Bytes: strings.Repeat("y", 80), Args: []api.Term{atom(1), atom(2), atom(3), atom(4), atom(5)}}
}

type weighed struct {
	name string
	t    api.Term
	want int
}

func check(t *testing.T, rows []weighed) {
	t.Helper()
	for _, x := range rows {
		if got := weigh.Weight(x.t); got != x.want {
			t.Errorf("P3.1: %s: Weight is %d, not %d", x.name, got, x.want)
		}
	}
}

func TestWeightOfEveryKind(t *testing.T) {
	check(t, []weighed{
		{"Int", api.Term{Kind: api.Int, N: api.Greatest}, 1},
		{"Int below 0", api.Term{Kind: api.Int, N: api.Least}, 1},
		{"Big of 2 limbs", integer(2), 3},
		{"Big of 3 limbs", integer(3), 4},
		{"Big of MaxLimbs limbs", integer(api.MaxLimbs), 9},
		{"Float", api.Term{Kind: api.Float, Bits: api.NaN}, 1},
		{"Atom", atom(api.MaxAtom), 1},
		{"Pid", api.Term{Kind: api.Pid, N: api.MaxPid}, 1},
		{"Tuple of 0", tuple(), 1},
		{"Tuple of 1", tuple(atom(1)), 2},
		{"Tuple of MaxTuple", tuple(atoms(api.MaxTuple)...), 9},
		{"Tuple of all that weighs", tuple(integer(2), binary(16), tuple(atom(1)), list(atom(2))), 12},
		{"Nil", list(), 1},
		{"Cons", cons(atom(1), atom(2)), 3},
		{"[1, 2]", list(api.Term{Kind: api.Int, N: 1}, api.Term{Kind: api.Int, N: 2}), 5},
		{"Cons of Big and Binary", cons(integer(5), binary(25)), 11},
		{"Binary of 0 bytes", binary(0), 1},
		{"Binary of 7 bytes", binary(7), 1},
		{"Binary of 8 bytes", binary(8), 2},
		{"Binary of 15 bytes", binary(15), 2},
		{"Binary of 16 bytes", binary(16), 3},
		{"Binary of HeapBytes bytes", binary(api.HeapBytes), 9},
		{"Binary of MaxBytes bytes", binary(api.MaxBytes), 51},
	})
}

// Only the fields that count for its kind make a term heavier, valid or not.
func TestWeightOfTermsThatAreNotValid(t *testing.T) {
	check(t, []weighed{
		{"the zero term", api.Term{}, 1},
		{"kind 0", full(0), 1},
		{"kind -1", full(-1), 1},
		{"kind 10", full(10), 1},
		{"the greatest kind", full(math.MaxInt), 1},
		{"the least kind", full(math.MinInt), 1},
		{"full Int", full(api.Int), 1},
		{"full Big", full(api.Big), 4},
		{"full Float", full(api.Float), 1},
		{"full Atom", full(api.Atom), 1},
		{"full Pid", full(api.Pid), 1},
		{"full Tuple", full(api.Tuple), 6},
		{"full Nil", full(api.Nil), 1},
		{"full Cons", full(api.Cons), 6},
		{"full Binary", full(api.Binary), 11},
		{"Big of no limbs", integer(0), 1},
		{"Big of limbs that are too many", integer(api.MaxLimbs + 1), 10},
		{"Cons of 0", cons(), 1},
		{"Cons of 1", cons(atom(1)), 2},
		{"Cons of 3", cons(atom(1), atom(2), atom(3)), 4},
		{"Tuple that is too long", tuple(atoms(api.MaxTuple + 1)...), 10},
		{"Binary that is too long", binary(api.MaxBytes + 8), 52},
		{"Tuple of zero terms", tuple(api.Term{}, api.Term{}), 3},
		{"full terms inside a Tuple", tuple(full(api.Big), full(api.Binary), full(api.Atom), full(0)), 18},
	})
}

func TestWeightAroundMaxWeight(t *testing.T) {
	const most = api.MaxWeight
	check(t, []weighed{
		{"Big just MaxWeight", integer(most - 1), most},
		{"Big above it", integer(most), most + 1},
		{"Big far above it", integer(1 << 20), most + 1},
		{"Binary just MaxWeight", binary(8 * (most - 1)), most},
		{"Binary of 7 bytes more", binary(8*(most-1) + 7), most},
		{"Binary above it", binary(8 * most), most + 1},
		{"Binary far above it", binary(1 << 20), most + 1},
		{"Tuple just MaxWeight", tuple(atoms(most - 1)...), most},
		{"Tuple above it", tuple(atoms(most)...), most + 1},
		{"Tuple of 1 more", tuple(atoms(most + 1)...), most + 1},
		{"Tuple far above it", tuple(atoms(1 << 16)...), most + 1},
		{"nested just below MaxWeight", nested(most - 2), most - 1},
		{"nested just MaxWeight", nested(most - 1), most},
		{"nested above it", nested(most), most + 1},
		{"nested far above it", nested(1000), most + 1},
		{"list just below MaxWeight", list(atoms(149)...), most - 1},
		{"list and a part of a Tuple just MaxWeight", tuple(list(atoms(149)...)), most},
		{"list above it", list(atoms(150)...), most + 1},
		{"the first Arg brings MaxWeight", cons(integer(most-3), atom(1)), most},
		{"the first Arg is too heavy", cons(integer(most-2), atom(1)), most + 1},
		{"the last Arg brings MaxWeight", cons(atom(1), integer(most-3)), most},
		{"the last Arg is too heavy", cons(atom(1), integer(most-2)), most + 1},
		{"two Args too heavy by themselves", cons(integer(1<<16), binary(1<<16)), most + 1},
	})
}

// A walk over every part of the greater ones would never end.
func TestWeightOfSharedParts(t *testing.T) {
	const most = api.MaxWeight
	check(t, []weighed{
		{"doubled 7 times", doubled(7), 255},
		{"doubled 8 times", doubled(8), most + 1},
		{"doubled 1000 times", doubled(1000), most + 1},
		{"a Tuple of MaxTuple times MaxTuple", shared(2, api.MaxTuple), 73},
		{"shared 17 each 17 times", shared(2, 17), most + 1},
		{"shared deep and wide", shared(600, 100), most + 1},
		{"one atom, 2^16 times", shared(1, 1<<16), most + 1},
		{"endless", endless(), most + 1},
	})
}

// sumOfParts goes through the parts in another way, without a bound.
func sumOfParts(t api.Term) int {
	sum := 0
	for todo := []api.Term{t}; len(todo) > 0; {
		part := todo[len(todo)-1]
		todo = todo[:len(todo)-1]
		sum++
		switch part.Kind {
		case api.Big:
			sum += len(part.Num.Mag)
		case api.Binary:
			sum += (len(part.Bytes) - len(part.Bytes)%8) / 8
		case api.Tuple, api.Cons:
			todo = append(todo, part.Args...)
		}
	}
	return sum
}

// dice is a sequence of numbers that is the same each time.
func dice() func(int) int {
	state := uint64(1)
	return func(n int) int {
		state = state*6364136223846793005 + 1442695040888963407
		return int((state >> 33) % uint64(n))
	}
}

func grown(roll func(int) int, levels int) api.Term {
	if levels == 0 {
		return full(roll(6))
	}
	switch roll(8) {
	case 0:
		return integer(roll(12))
	case 1:
		return binary(roll(100))
	case 2, 3, 4:
		return cons(grown(roll, levels-1), grown(roll, levels-1))
	}
	made := tuple()
	for range roll(6) {
		made.Args = append(made.Args, grown(roll, levels-1))
	}
	return made
}

func TestWeightIsTheSumOfTheParts(t *testing.T) {
	roll := dice()
	light, heavy := 0, 0
	for i := range 3000 {
		x := grown(roll, roll(8))
		want := sumOfParts(x)
		if want <= api.MaxWeight {
			light++
		} else {
			heavy++
			want = api.MaxWeight + 1
		}
		if got := weigh.Weight(x); got != want {
			t.Fatalf("P3.1: the %d-th term: Weight is %d, not %d", i, got, want)
		}
	}
	if light < 100 || heavy < 100 {
		t.Errorf("P3.1: %d light terms and %d heavy ones say too little", light, heavy)
	}
}

func TestAbove(t *testing.T) {
	const heavy = api.MaxWeight + 1
	far := doubled(1000)
	for _, x := range []struct {
		name string
		ts   []api.Term
		sum  int
	}{
		{"no argument", nil, 0},
		{"the zero term", []api.Term{{}}, 1},
		{"a light one", []api.Term{list(atoms(2)...)}, 5},
		{"one just MaxWeight", []api.Term{integer(api.MaxWeight - 1)}, api.MaxWeight},
		{"one above it", []api.Term{integer(api.MaxWeight)}, heavy},
		{"one far above it", []api.Term{far}, heavy},
		{"several light ones", []api.Term{atom(1), binary(16), tuple(atom(2)), integer(4)}, 11},
		{"a light one behind a heavy one", []api.Term{far, atom(1)}, heavy + 1},
		{"a heavy one behind a light one", []api.Term{atom(1), far}, heavy + 1},
		{"several heavy ones", []api.Term{far, endless(), binary(1 << 20), nested(1000)}, 4 * heavy},
		{"300 light ones", atoms(api.MaxWeight), api.MaxWeight},
		{"301 light ones", atoms(api.MaxWeight + 1), heavy},
		{"very many", shared(1, 1<<16).Args, 1 << 16},
		{"very many heavy ones", heavies(1 << 12), heavy << 12},
	} {
		for _, most := range []int{math.MinInt, math.MinInt + 1, -1 << 32, -heavy, -2, -1, 0, 1, 2, api.MaxWeight - 1, api.MaxWeight, heavy, x.sum - 2, x.sum - 1, x.sum, x.sum + 1, 2 * heavy, 1 << 32, math.MaxInt - 1, math.MaxInt} {
			if got := weigh.Above(most, x.ts...); got != (x.sum > most) {
				t.Errorf("P3.1: Above(%d) of %s, together %d, is %v", most, x.name, x.sum, got)
			}
		}
	}
}

func heavies(n int) []api.Term {
	made := make([]api.Term, n)
	for i := range made {
		made[i] = doubled(20)
	}
	return made
}

func TestNothingIsChanged(t *testing.T) {
	build := func() []api.Term {
		args := make([]api.Term, 2, 5)
		args[0], args[1] = full(api.Big), full(api.Tuple)
		return append(args, full(api.Cons), shared(3, 4))
	}
	ts, before := build(), build()
	for i := range ts {
		weigh.Weight(ts[i])
	}
	weigh.Above(10, ts...)
	weigh.Above(math.MaxInt, ts...)
	if !reflect.DeepEqual(ts, before) || !reflect.DeepEqual(ts[:5], append(before, api.Term{})) {
		t.Error("R4: an argument has changed")
	}
}
