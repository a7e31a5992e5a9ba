package sizes_test

import (
	"math"
	"math/big"
	"sync"
	"testing"

	"beehive/api"
	"beehive/sizes"
)

const bound = 1 << 30

// written are all the sizes, written out.
func written() []int {
	return []int{
		12, 20, 32, 52, 84, 136, 220, 356, 576,
		932, 1508, 2440, 3948, 6388, 10336, 16724, 27060, 43784,
		70844, 114628, 185472, 300100, 485572, 785672, 1271244, 2056916, 3328160,
	}
}

// far are ints around powers of two, and as far out as an int goes.
func far() []int {
	made := []int{math.MinInt, math.MinInt + 1, math.MinInt + 2, math.MaxInt - 2, math.MaxInt - 1, math.MaxInt}
	for bit := 5; bit < 63; bit++ {
		for by := -2; by <= 2; by++ {
			made = append(made, 1<<bit+by, -1<<bit+by)
		}
	}
	return made
}

// wanted is the size that n fits into, or 0.
func wanted(n *big.Int) int {
	for _, size := range written() {
		if n.Cmp(big.NewInt(int64(size))) <= 0 {
			return size
		}
	}
	return 0
}

// wantedOf is what Want has to return, by numbers that know no overflow.
func wantedOf(live int, need int) int {
	if live < 0 || need < 0 || live > bound || need > bound {
		return 0
	}
	sum := new(big.Int).Mul(big.NewInt(4), big.NewInt(int64(live)))
	return wanted(sum.Add(sum, big.NewInt(int64(need))))
}

func checkSize(t *testing.T, i int, want int) {
	t.Helper()
	if size, ok := sizes.Size(i); size != want || ok != (want > 0) {
		t.Errorf("P9.1: Size(%d): %d, %v, not %d", i, size, ok, want)
	}
}

func checkFit(t *testing.T, n int, want int) {
	t.Helper()
	if size, ok := sizes.Fit(n); size != want || ok != (want > 0) {
		t.Errorf("P9.1: Fit(%d): %d, %v, not %d", n, size, ok, want)
	}
}

func checkWant(t *testing.T, live int, need int, want int) {
	t.Helper()
	if size, ok := sizes.Want(live, need); size != want || ok != (want > 0) {
		t.Errorf("P9.1: Want(%d, %d): %d, %v, not %d", live, need, size, ok, want)
	}
}

func TestExamples(t *testing.T) {
	checkSize(t, 2, 32)
	checkFit(t, 33, 52)
	checkWant(t, 3, 1, 20)
}

func TestSizeOfEachIndex(t *testing.T) {
	if n := len(written()); n != api.MaxTable+1 {
		t.Fatalf("there are %d sizes", n)
	}
	for i, want := range written() {
		checkSize(t, i, want)
		if i >= 2 && want != written()[i-1]+written()[i-2] {
			t.Errorf("P9.1: the size %d is no sum", i)
		}
	}
}

func TestSizeOfNoIndex(t *testing.T) {
	for by := 1; by <= 1000; by++ {
		checkSize(t, -by, 0)
		checkSize(t, api.MaxTable+by, 0)
	}
	for _, i := range far() {
		if i < 0 || i > api.MaxTable {
			checkSize(t, i, 0)
		}
	}
}

func TestFitAroundEachSize(t *testing.T) {
	all := written()
	for i, size := range all {
		checkFit(t, size-1, size)
		checkFit(t, size, size)
		if i < api.MaxTable {
			checkFit(t, size+1, all[i+1])
		} else {
			checkFit(t, size+1, 0)
		}
	}
}

func TestFitOfEachNumber(t *testing.T) {
	all := written()
	n := -1000
	for _, size := range all {
		for ; n <= size; n++ {
			checkFit(t, n, size)
		}
	}
	for ; n <= all[api.MaxTable]+1000; n++ {
		checkFit(t, n, 0)
	}
}

func TestFitFarOut(t *testing.T) {
	checkFit(t, 0, 12)
	for _, n := range far() {
		checkFit(t, n, wanted(big.NewInt(int64(n))))
	}
	checkFit(t, math.MinInt, 12)
	checkFit(t, math.MaxInt, 0)
}

// Here nothing but the chapter is asked: the sizes are written out.
func TestWantWrittenOut(t *testing.T) {
	for _, x := range []struct{ live, need, want int }{
		{0, 0, 12},
		{0, 12, 12},
		{0, 13, 20},
		{1, 8, 12},
		{1, 9, 20},
		{2, 4, 12},
		{2, 5, 20},
		{3, 0, 12},
		{4, 0, 20},
		{5, 0, 20},
		{5, 1, 32},
		{0, 3328159, 3328160},
		{0, 3328160, 3328160},
		{0, 3328161, 0},
		{832039, 4, 3328160},
		{832039, 5, 0},
		{832040, 0, 3328160},
		{832040, 1, 0},
		{832041, 0, 0},
		{bound, 0, 0},
		{0, bound, 0},
		{bound, bound, 0},
		{bound + 1, 0, 0},
		{0, bound + 1, 0},
		{-1, 0, 0},
		{0, -1, 0},
		{-1, -1, 0},
		{-1, 16, 0},
		{4, -4, 0},
		{-1, bound, 0},
		{bound, -1, 0},
		// Four times these is 0 for an int.
		{math.MinInt, 0, 0},
		{1 << 62, 0, 0},
		{1 << 62, 12, 0},
		{-1 << 62, 12, 0},
		// Four times the one and the other are 12 for an int.
		{math.MaxInt, 16, 0},
		{math.MaxInt/4 + 1, math.MinInt + 12, 0},
		{0, math.MinInt, 0},
		{0, math.MaxInt, 0},
		{math.MinInt, math.MinInt, 0},
		{math.MaxInt, math.MaxInt, 0},
	} {
		checkWant(t, x.live, x.need, x.want)
	}
}

// lives are some numbers of live words of which four times is at most n.
func lives(n int) []int {
	made := []int{0, n / 8, n/4 - 1, n / 4}
	for live := 1; live <= min(n/4, 100); live++ {
		made = append(made, live)
	}
	return made
}

func TestWantAroundEachSize(t *testing.T) {
	all := append(written(), 0)
	for i, size := range all[:api.MaxTable+1] {
		for _, live := range lives(size) {
			need := size - 4*live
			checkWant(t, live, need, size)
			checkWant(t, live, need+1, all[i+1])
			if need > 0 {
				checkWant(t, live, need-1, size)
			} else {
				checkWant(t, live, need-1, 0)
				checkWant(t, live-1, need+3, size)
			}
		}
	}
}

func TestWantOfSmallNumbers(t *testing.T) {
	for live := -5; live <= 300; live++ {
		for need := -20; need <= 1000; need++ {
			checkWant(t, live, need, wantedOf(live, need))
		}
	}
}

func TestWantFarOut(t *testing.T) {
	made := append(far(), -1, 0, 1, 2, 3, 12, 13, 20)
	for _, live := range made {
		for _, need := range made {
			checkWant(t, live, need, wantedOf(live, need))
		}
	}
}

func TestManyAtOnce(t *testing.T) {
	var group sync.WaitGroup
	for range 8 {
		group.Go(func() {
			for i, size := range written() {
				checkSize(t, i, size)
				checkFit(t, size, size)
				checkWant(t, size/4, size%4, size)
			}
		})
	}
	group.Wait()
}
