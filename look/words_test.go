package look_test

import (
	"math"
	"slices"
	"strings"
	"testing"

	"beehive/api"
	"beehive/look"
	"beehive/term"
)

// mk is a word with this tag and load, whether there may be one or not.
func mk(tag int, load int) uint64 { return uint64(load)<<3 | uint64(tag) }

// head is a head of this kind and size, whether there may be one or not.
func head(kind int, size int) uint64 { return mk(api.TagHead, size<<3|kind) }

func box(at int) uint64     { return mk(api.TagBox, at) }
func cons(at int) uint64    { return mk(api.TagCons, at) }
func small(n int) uint64    { return mk(api.TagInt, n) }
func negative(n int) uint64 { return uint64(-n) }

var empty = mk(api.TagNil, 0)

// young is a dump of a young region alone, from the address 1 on.
func young(words ...uint64) api.Dump {
	return api.Dump{Young: api.Frag{At: 1, Words: words}, Size: len(words)}
}

func bin(s string) api.Term { return api.Term{Kind: api.Binary, Bytes: s} }

func pair(a api.Term, b api.Term) api.Term {
	return api.Term{Kind: api.Cons, Args: []api.Term{a, b}}
}

func tuple(ts ...api.Term) api.Term { return api.Term{Kind: api.Tuple, Args: ts} }

// xs is n bytes of which no two neighbours are the same.
func xs(n int) string {
	var made strings.Builder
	for i := range n {
		made.WriteByte(byte(1 + i%250))
	}
	return made.String()
}

// laid are the words that the bytes of s fill.
func laid(s string) []uint64 {
	var made []uint64
	for len(s) > 0 {
		w := uint64(0)
		for i := 0; i < 8 && i < len(s); i++ {
			w += uint64(s[i]) << (8 * i)
		}
		made = append(made, w)
		s = s[min(8, len(s)):]
	}
	return made
}

// bytesObject is the object of a HeadBytes with these bytes.
func bytesObject(s string) []uint64 {
	words := laid(s)
	return append([]uint64{head(api.HeadBytes, 1+len(words)), uint64(len(s))}, words...)
}

// bigObject is the object of a HeadBig with these limbs.
func bigObject(x api.Num) []uint64 {
	made := []uint64{head(api.HeadBig, 1+(len(x.Mag)+1)/2), 0}
	if x.Neg {
		made[1] = 1
	}
	for i, limb := range x.Mag {
		if i%2 == 0 {
			made = append(made, 0)
		}
		made[len(made)-1] += uint64(limb) << (32 * (i % 2))
	}
	return made
}

// far are words around powers of two, and as far out as a word goes.
func far() []uint64 {
	made := []uint64{0, 1, 2, math.MaxUint64, math.MaxUint64 - 1}
	for bit := 2; bit < 64; bit++ {
		made = append(made, 1<<bit-1, 1<<bit, 1<<bit+1)
	}
	return made
}

// alike holds that a and b are the same in all fields, used or not.
func alike(a api.Term, b api.Term) bool {
	return a.Kind == b.Kind && a.N == b.N && a.Bits == b.Bits && a.Bytes == b.Bytes &&
		a.Num.Neg == b.Num.Neg && slices.Equal(a.Num.Mag, b.Num.Mag) &&
		slices.EqualFunc(a.Args, b.Args, alike)
}

// reads holds that w stands for want.
func reads(t *testing.T, what string, d api.Dump, slots []api.Slot, w uint64, want api.Term) {
	t.Helper()
	got, ok := look.Read(d, slots, w)
	if !ok || !alike(got, want) || !term.May(got) {
		t.Errorf("P12.1: %s: Read of %x: %v, %v, not %v", what, w, got, ok, want)
	}
}

// fails holds that w stands for nothing.
func fails(t *testing.T, what string, d api.Dump, slots []api.Slot, w uint64) {
	t.Helper()
	if got, ok := look.Read(d, slots, w); ok || !alike(got, api.Term{}) {
		t.Errorf("P12.1: %s: Read of %x: %v, %v", what, w, got, ok)
	}
}
