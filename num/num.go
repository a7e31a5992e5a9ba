// Package num: whole numbers. Its chapter: shared/doc/01-num.md.
package num

import (
	"cmp"
	"slices"

	"beehive/api"
)

const limbBits = 32

// May reports whether x is valid.
func May(x api.Num) bool {
	many := len(x.Mag)
	if many == 0 {
		return !x.Neg
	}
	return many <= api.MaxLimbs && x.Mag[many-1] != 0
}

// Of returns the integer n.
func Of(n int) api.Num {
	size := uint64(n)
	if n < 0 {
		// Unsigned, so that the least int has its opposite too.
		size = -size
	}
	return signed(n < 0, trimmed([]uint32{uint32(size), uint32(size >> limbBits)}))
}

// Small returns x as an int, if x is valid and from Least to Greatest.
func Small(x api.Num) (int, bool) {
	if !May(x) || len(x.Mag) > 2 {
		return 0, false
	}
	var size uint64
	for i, limb := range x.Mag {
		size |= uint64(limb) << (limbBits * i)
	}
	if x.Neg && size <= -api.Least {
		return -int(size), true
	}
	if !x.Neg && size <= api.Greatest {
		return int(size), true
	}
	return 0, false
}

// Cmp compares a and b; it returns 0 if one of them is not valid.
func Cmp(a api.Num, b api.Num) int {
	switch {
	case !May(a) || !May(b):
		return 0
	case a.Neg && b.Neg:
		return compareLimbs(b.Mag, a.Mag)
	case a.Neg:
		return -1
	case b.Neg:
		return 1
	}
	return compareLimbs(a.Mag, b.Mag)
}

// Neg returns -a, or 0 if a is not valid.
func Neg(a api.Num) api.Num {
	if !May(a) {
		return api.Num{}
	}
	return signed(!a.Neg, slices.Clone(a.Mag))
}

// Add returns the sum, if it has at most MaxLimbs limbs.
func Add(a api.Num, b api.Num) (api.Num, bool) {
	if !May(a) || !May(b) {
		return api.Num{}, false
	}
	return sum(a, b)
}

// Sub returns the difference, if it has at most MaxLimbs limbs.
func Sub(a api.Num, b api.Num) (api.Num, bool) {
	if !May(a) || !May(b) {
		return api.Num{}, false
	}
	return sum(a, api.Num{Neg: !b.Neg, Mag: b.Mag})
}

// Mul returns the product, if it has at most MaxLimbs limbs.
func Mul(a api.Num, b api.Num) (api.Num, bool) {
	if !May(a) || !May(b) {
		return api.Num{}, false
	}
	return bounded(a.Neg != b.Neg, mulLimbs(a.Mag, b.Mag))
}

// sum takes a 0 of either sign too, so that Sub need not copy its limbs.
func sum(a api.Num, b api.Num) (api.Num, bool) {
	if a.Neg == b.Neg {
		return bounded(a.Neg, addLimbs(a.Mag, b.Mag))
	}
	if compareLimbs(a.Mag, b.Mag) < 0 {
		return bounded(b.Neg, subLimbs(b.Mag, a.Mag))
	}
	return bounded(a.Neg, subLimbs(a.Mag, b.Mag))
}

// bounded makes an integer of limbs that may be too many or end in zeros.
func bounded(neg bool, limbs []uint32) (api.Num, bool) {
	limbs = trimmed(limbs)
	if len(limbs) > api.MaxLimbs {
		return api.Num{}, false
	}
	return signed(neg, limbs), true
}

// signed gives trimmed limbs a sign; 0 has none.
func signed(neg bool, limbs []uint32) api.Num {
	if len(limbs) == 0 {
		return api.Num{}
	}
	return api.Num{Neg: neg, Mag: limbs}
}

// trimmed drops the zeros at the end.
func trimmed(limbs []uint32) []uint32 {
	many := len(limbs)
	for many > 0 && limbs[many-1] == 0 {
		many--
	}
	return limbs[:many]
}

// compareLimbs compares trimmed limbs: the longer ones are greater.
func compareLimbs(a []uint32, b []uint32) int {
	if len(a) != len(b) {
		return cmp.Compare(len(a), len(b))
	}
	for i := len(a) - 1; i >= 0; i-- {
		if a[i] != b[i] {
			return cmp.Compare(a[i], b[i])
		}
	}
	return 0
}

func addLimbs(long []uint32, short []uint32) []uint32 {
	if len(long) < len(short) {
		long, short = short, long
	}
	total := make([]uint32, len(long)+1)
	var carry uint64
	for i, limb := range long {
		carry += uint64(limb)
		if i < len(short) {
			carry += uint64(short[i])
		}
		total[i] = uint32(carry)
		carry >>= limbBits
	}
	total[len(long)] = uint32(carry)
	return total
}

// subLimbs takes the lesser limbs from the greater ones (or from equal ones).
func subLimbs(greater []uint32, lesser []uint32) []uint32 {
	rest := make([]uint32, len(greater))
	var borrow uint64
	for i, limb := range greater {
		left := uint64(limb) - borrow
		if i < len(lesser) {
			left -= uint64(lesser[i])
		}
		rest[i] = uint32(left)
		// A limb that falls below 0 wraps round and sets the highest bit.
		borrow = left >> 63
	}
	return rest
}

func mulLimbs(a []uint32, b []uint32) []uint32 {
	product := make([]uint32, len(a)+len(b))
	for i, x := range a {
		var carry uint64
		for j, y := range b {
			// At most 2^64 - 1: a product of two limbs leaves room for two limbs more.
			carry += uint64(x)*uint64(y) + uint64(product[i+j])
			product[i+j] = uint32(carry)
			carry >>= limbBits
		}
		product[i+len(b)] = uint32(carry)
	}
	return product
}
