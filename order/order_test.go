package order_test

import (
	"math"
	"math/rand"
	"reflect"
	"slices"
	"strings"
	"testing"

	"beehive/api"
	"beehive/order"
	"beehive/term"
)

// checkRising holds that each term is less than those behind it, and as
// great as itself, also if that stands elsewhere in memory.
func checkRising(t *testing.T, name string, build func() []api.Term) {
	t.Helper()
	ts, others := build(), build()
	for i, a := range ts {
		if !term.May(a) {
			t.Errorf("%s: the term %d of the test is not valid", name, i)
		}
		for k, b := range others {
			if got := order.Cmp(a, b); got != sign(i-k) {
				t.Errorf("P5.1: %s: Cmp of the terms %d and %d is %d", name, i, k, got)
			}
			if got := order.Less(a, b); got != (i < k) {
				t.Errorf("P5.1: %s: Less of the terms %d and %d is %v", name, i, k, got)
			}
		}
	}
}

// The greatest of each class is followed by the least of the next one; all
// of them could be told the other way by their fields.
func TestClasses(t *testing.T) {
	checkRising(t, "classes", func() []api.Term {
		top := large(false, times32(api.MaxLimbs)...)
		return []api.Term{
			float(math.Inf(-1)), top, float(math.Inf(1)), nan(),
			atom(0), atom(api.MaxAtom),
			pid(0), pid(api.MaxPid),
			tuple(), tuple(times(api.MaxTuple, binary("z"))...),
			null(),
			cons(whole(api.Least), whole(api.Least)), cons(binary("z"), binary("z")),
			binary(""), binary(strings.Repeat("\xff", api.MaxBytes)),
		}
	})
}

func times32(n int) []uint32 {
	made := make([]uint32, n)
	for i := range made {
		made[i] = math.MaxUint32
	}
	return made
}

// The classes stand so inside of Tuples and Conses too.
func TestClassesOfParts(t *testing.T) {
	parts := []api.Term{whole(9), atom(8), pid(7), tuple(atom(6)), null(), cons(atom(5), atom(4)), binary("")}
	for name, wrap := range map[string]func(api.Term) api.Term{
		"in a Tuple":  func(x api.Term) api.Term { return tuple(atom(1), x, binary("z")) },
		"in a head":   func(x api.Term) api.Term { return cons(x, binary("z")) },
		"in a tail":   func(x api.Term) api.Term { return cons(atom(1), x) },
		"deep inside": func(x api.Term) api.Term { return nested(250, cons(null(), x)) },
	} {
		checkRising(t, name, func() []api.Term {
			var made []api.Term
			for _, x := range parts {
				made = append(made, wrap(x))
			}
			return made
		})
	}
}

func TestNumbers(t *testing.T) {
	checkRising(t, "numbers", numbers)
}

func TestNumbersOfTheChapter(t *testing.T) {
	minus := math.Copysign(0, -1)
	checkRising(t, "numbers", func() []api.Term {
		return []api.Term{
			float(math.Inf(-1)), float(-math.MaxFloat64), large(true, 0, 0, 1), float(-0x1p64), large(true, 1, 1<<28), whole(api.Least), float(-0x1p60),
			whole(-1), float(-1), float(-5e-324), whole(0), float(minus), float(0), float(5e-324), float(0.5), whole(1), float(1), float(1.5), whole(2),
			whole(1 << 53), float(1 << 53), whole(1<<53 + 1), float(1<<53 + 2), whole(1<<53 + 3),
			whole(api.Greatest), large(false, 0, 1<<28), float(0x1p60), large(false, 1, 1<<28), large(false, 0, 0, 1), float(0x1p64), large(false, times32(8)...), float(0x1p256), float(math.MaxFloat64), float(math.Inf(1)), nan(),
		}
	})
}

func TestAtomsAndPids(t *testing.T) {
	checkRising(t, "Atoms and Pids", func() []api.Term {
		var made []api.Term
		for n := range api.MaxAtom + 1 {
			made = append(made, atom(n))
		}
		for n := range api.MaxPid + 1 {
			made = append(made, pid(n))
		}
		return made
	})
}

func TestTuples(t *testing.T) {
	checkRising(t, "Tuples", func() []api.Term {
		made := []api.Term{
			tuple(), tuple(whole(3)), tuple(binary("z")),
			tuple(whole(1), whole(1)), tuple(whole(1), float(1)), tuple(whole(1), null()), tuple(float(1), whole(1)), tuple(whole(2), whole(0)), tuple(tuple(whole(9)), whole(0)), tuple(tuple(whole(0), whole(0)), whole(0)),
			tuple(whole(0), whole(0), whole(0)), tuple(whole(0), whole(0), whole(1)), tuple(whole(0), whole(1), whole(0)),
		}
		eight := times(api.MaxTuple, atom(5))
		for i := api.MaxTuple - 1; i >= 0; i-- {
			more := slices.Clone(eight)
			more[i] = atom(6)
			if i < api.MaxTuple-1 {
				// What stands behind the first difference says nothing.
				more[i+1] = atom(0)
			}
			made = append(made, tuple(more...))
		}
		return made
	})
}

func TestConses(t *testing.T) {
	checkRising(t, "Conses", func() []api.Term {
		return []api.Term{
			cons(whole(1), whole(9)), cons(whole(1), float(9)), cons(whole(1), atom(0)), list(whole(1)), list(whole(1), whole(0)), list(whole(1), whole(0), whole(0)), list(whole(1), whole(1)), cons(whole(1), binary("")),
			cons(float(1), whole(0)), list(whole(2)), list(whole(2), whole(2)), list(times(149, whole(3))...), list(append(times(148, whole(3)), float(3))...), list(null()), list(list(whole(1))), list(list(whole(1), whole(1))), list(binary("")),
		}
	})
}

func TestBinaries(t *testing.T) {
	checkRising(t, "Binaries", func() []api.Term {
		long := strings.Repeat("m", api.MaxBytes-1)
		var made []api.Term
		for _, s := range []string{"", "\x00", "\x00\x00", "\x00\xff", "\x01", "A", "a", "a\x00", "aa", "ab", "abc", "b", long[:8], long[:64], long[:65], long, long + "\x00", long + "m", long + "\xff", long[:9] + "n", "\x7f", "\x80", "\xc3\xa9", "\xff", "\xff\x00", "\xff\xff"} {
			made = append(made, binary(s))
		}
		return made
	})
}

// notValid are terms of every fault, some of them below what is valid.
func notValid() []api.Term {
	made := []api.Term{
		{}, {Kind: 10}, {Kind: -1}, {Kind: math.MaxInt}, {Kind: math.MinInt},
		whole(api.Greatest + 1), whole(api.Least - 1), whole(math.MaxInt), whole(math.MinInt), {Kind: api.Int, N: 1, Bytes: "x"},
		large(false), large(true), large(false, 5), large(true, 0, 1<<28), large(false, 0, 1<<28, 0), large(false, times32(9)...), {Kind: api.Big, N: 1, Num: limbs(false, 0, 0, 1)},
		{Kind: api.Float, Bits: api.NaN + 1}, {Kind: api.Float, Bits: math.MaxUint64}, {Kind: api.Float, N: 1},
		atom(-1), atom(api.MaxAtom + 1), {Kind: api.Atom, Bits: 1}, pid(-1), pid(api.MaxPid + 1), {Kind: api.Pid, Num: limbs(true)},
		{Kind: api.Nil, N: 1}, {Kind: api.Nil, Args: []api.Term{null()}},
		cons(), cons(whole(1)), cons(whole(1), whole(1), whole(1)), tuple(times(api.MaxTuple+1, whole(1))...),
		binary(strings.Repeat("x", api.MaxBytes+1)), {Kind: api.Binary, N: 1},
		list(times(150, whole(1))...), nested(300, null()), nested(1000, null()), doubled(8, atom(1)), doubled(1000, atom(1)), endless(atom(1)), tuple(times(1<<16, atom(1))...),
	}
	bad := api.Term{Kind: api.Atom, N: api.MaxAtom + 1}
	return append(made, tuple(bad), tuple(whole(1), bad), tuple(whole(0), whole(0), whole(0), bad), cons(bad, null()), cons(whole(0), bad), list(whole(0), whole(0), bad), nested(200, bad))
}

// Some of these would be told apart by what stands ahead of the fault.
func TestTermsThatAreNotValid(t *testing.T) {
	good := append(numbers()[:40], atom(0), atom(1), pid(0), tuple(), tuple(whole(1)), tuple(whole(2), whole(1)), tuple(whole(1), whole(1), whole(1), whole(1)), null(), list(whole(1)), list(whole(0), whole(1)), cons(whole(2), whole(2)), binary(""), binary("x"), nested(299, null()), doubled(7, atom(1)))
	all := append(good, notValid()...)
	for i, bad := range notValid() {
		if term.May(bad) {
			t.Fatalf("the wrong term %d of the test is valid", i)
		}
		for k, x := range all {
			if order.Cmp(bad, x) != 0 || order.Cmp(x, bad) != 0 || order.Less(bad, x) || order.Less(x, bad) {
				t.Errorf("P5.1: the wrong term %d and the term %d stand in an order", i, k)
			}
		}
	}
}

func TestExamples(t *testing.T) {
	if order.Cmp(whole(1), float(1)) != -1 || order.Cmp(tuple(), null()) != -1 {
		t.Error("P5.1: the chapter's examples")
	}
}

func TestRandomTerms(t *testing.T) {
	ts, others := randoms(1, 400), randoms(1, 400)
	for i := range ts {
		for k := range others {
			want := expected(ts[i], others[k])
			if got := order.Cmp(ts[i], others[k]); got != want {
				t.Fatalf("P5.1: Cmp(%v, %v) is %d", ts[i], others[k], got)
			}
			if order.Less(ts[i], others[k]) != (want == -1) {
				t.Fatalf("P5.1: Less(%v, %v) is %v", ts[i], others[k], want != -1)
			}
		}
	}
}

// mixed are numbers, which the order takes from three kinds, and random terms.
func mixed() []api.Term {
	return append(numbers()[100:200], randoms(2, 150)...)
}

func TestTotalOrder(t *testing.T) {
	ts := mixed()
	table := make([][]int, len(ts))
	for i := range ts {
		table[i] = make([]int, len(ts))
		for k := range ts {
			table[i][k] = order.Cmp(ts[i], ts[k])
			if (table[i][k] == 0) != term.Same(ts[i], ts[k]) {
				t.Fatalf("P5.2: Cmp(%v, %v) is %d", ts[i], ts[k], table[i][k])
			}
		}
	}
	for i := range ts {
		for k := range ts {
			if table[i][k] != -table[k][i] {
				t.Fatalf("P5.2: %v and %v stand in two orders", ts[i], ts[k])
			}
			for m := range ts {
				if table[i][k] <= 0 && table[k][m] <= 0 && table[i][m] > 0 {
					t.Fatalf("P5.2: %v, %v and %v stand in a ring", ts[i], ts[k], ts[m])
				}
			}
		}
	}
}

// checkSorted holds that got are the terms of ts, each as often, in ascending order.
func checkSorted(t *testing.T, name string, ts []api.Term, got []api.Term) {
	t.Helper()
	want := slices.Clone(ts)
	slices.SortStableFunc(want, expected)
	if len(got) != len(want) {
		t.Fatalf("P5.1: Sort of %s: %d terms of %d", name, len(got), len(want))
	}
	for i := range want {
		if !term.Same(got[i], want[i]) || !term.May(got[i]) {
			t.Fatalf("P5.1: Sort of %s: the term %d is %v, not %v", name, i, got[i], want[i])
		}
	}
}

func turned(ts []api.Term) []api.Term {
	made := slices.Clone(ts)
	slices.Reverse(made)
	return made
}

func TestSort(t *testing.T) {
	r := rand.New(rand.NewSource(3))
	some := mixed()
	shuffled := slices.Clone(some)
	r.Shuffle(len(shuffled), func(i, k int) { shuffled[i], shuffled[k] = shuffled[k], shuffled[i] })
	for name, ts := range map[string][]api.Term{
		"one":         {nan()},
		"one twice":   {tuple(whole(1)), tuple(whole(1))},
		"two":         {whole(1), whole(0)},
		"three":       {binary(""), null(), atom(3)},
		"numbers":     turned(numbers()),
		"rising":      numbers(),
		"mixed":       some,
		"shuffled":    shuffled,
		"each twice":  append(turned(some), shuffled...),
		"the same":    times(500, list(whole(1), float(1))),
		"of 12":       shuffled[:12],
		"of 13":       shuffled[:13],
		"heaviest":    {nested(299, null()), nested(299, whole(1)), nested(298, null()), doubled(7, atom(2)), doubled(7, atom(1))},
		"all classes": {binary("a"), list(whole(1)), null(), tuple(), pid(1), atom(1), float(1), large(false, 0, 0, 1), whole(1)},
	} {
		checkSorted(t, name, ts, order.Sort(ts))
	}
	if len(order.Sort(nil)) != 0 || len(order.Sort([]api.Term{})) != 0 {
		t.Error("P5.1: Sort of none")
	}
}

func TestSortOfTermsThatAreNotValid(t *testing.T) {
	good := numbers()[:30]
	for i, bad := range notValid() {
		for _, at := range []int{0, 1, 15, 29, 30} {
			if got := order.Sort(slices.Insert(slices.Clone(good), at, bad)); len(got) != 0 {
				t.Errorf("P5.1: Sort with the wrong term %d at %d is %d terms", i, at, len(got))
			}
		}
		if len(order.Sort([]api.Term{bad})) != 0 || len(order.Sort([]api.Term{bad, bad})) != 0 {
			t.Errorf("P5.1: Sort of the wrong term %d alone is not none", i)
		}
	}
}

// Each of these would not end, or not soon, if a term were held against
// every other one.
func TestSortOfManyTerms(t *testing.T) {
	const many = 1 << 18
	ts := make([]api.Term, many)
	for i := range ts {
		ts[i] = whole(i * 7919 % many)
	}
	for i, x := range order.Sort(ts) {
		if x.N != i {
			t.Fatalf("P5.1: Sort of many terms: the term %d is %d", i, x.N)
		}
	}
	heavy := append(times(2000, doubled(7, atom(1))), times(2000, doubled(7, atom(0)))...)
	for i, x := range order.Sort(heavy) {
		if !term.Same(x, heavy[(i+2000)%4000]) {
			t.Fatalf("P5.1: Sort of heavy terms: the term %d is %v", i, x)
		}
	}
}

// roomy has unused capacity that shows a write.
func roomy(ts ...api.Term) []api.Term {
	all := append(slices.Clone(ts), atom(201), atom(202))
	return all[:len(ts)]
}

// ragged are valid terms with limbs and Args, also inside of Args.
func ragged() []api.Term {
	return roomy(tuple(roomy(large(true, 4, 5, 6), tuple(roomy(large(false, 1, 2, 3), null())...))...), list(roomy(binary("b"), binary("a"))...), large(false, 9, 9, 9), large(false, 0, 1<<28), tuple(roomy()...), float(1), whole(1))
}

// spoil writes into all that is reached, up to the capacities.
func spoil(ts []api.Term) {
	all := ts[:cap(ts)]
	for i := range all {
		mag := all[i].Num.Mag[:cap(all[i].Num.Mag)]
		for k := range mag {
			mag[k] = 1234
		}
		spoil(all[i].Args)
		all[i] = api.Term{Kind: 99, Bytes: "spoilt"}
	}
}

// opened shows the unused capacity too, all the way down, so that a write
// anywhere is seen.
func opened(ts []api.Term) []api.Term {
	made := slices.Clone(ts[:cap(ts)])
	for i := range made {
		made[i].Args = opened(made[i].Args)
	}
	return made
}

func TestNothingIsChanged(t *testing.T) {
	ts := ragged()
	for i := range ts {
		for k := range ts {
			order.Cmp(ts[i], ts[k])
			order.Less(ts[i], ts[k])
		}
	}
	spoil(order.Sort(ts))
	order.Sort(append(slices.Clip(ts), api.Term{}))
	if !reflect.DeepEqual(opened(ts), opened(ragged())) {
		t.Error("R4: an argument has changed, or a result shares memory with one")
	}
}

func TestNothingIsShared(t *testing.T) {
	ts := ragged()
	got, other := order.Sort(ts), order.Sort(ts)
	spoil(ts)
	spoil(other)
	checkSorted(t, "terms that are spoilt later", ragged(), got)
	for _, many := range []int{2, 3, 4000} {
		twice := order.Sort(times(many, tuple(times(8, tuple(times(8, large(false, 7, 8, 9))...))...)))
		spoil(twice[:1:1])
		spoil(twice[1].Args[:1:1])
		want := tuple(times(8, large(false, 7, 8, 9))...)
		for i, x := range twice[1:] {
			for k, y := range x.Args {
				if (i > 0 || k > 0) && !reflect.DeepEqual(y, want) {
					t.Fatalf("R4: two parts of %d sorted terms share memory", many)
				}
			}
		}
	}
}

func TestOneAnswerEachTime(t *testing.T) {
	ts := mixed()
	first := order.Sort(ts)
	for range 3 {
		if !reflect.DeepEqual(order.Sort(ts), first) {
			t.Fatal("R5: Sort answers differently")
		}
	}
}
