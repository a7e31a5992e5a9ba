package collect_test

import (
	"slices"
	"strings"

	"beehive/api"
	"beehive/look"
	"beehive/term"
)

const far = 1 << 50

// mk is a word with this tag and load, whether there may be one or not.
func mk(tag int, load int) uint64 { return uint64(load)<<3 | uint64(tag) }

// head is a head of this kind and size, whether there may be one or not.
func head(kind int, size int) uint64 { return mk(api.TagHead, size<<3|kind) }

func box(at int) uint64    { return mk(api.TagBox, at) }
func cons(at int) uint64   { return mk(api.TagCons, at) }
func small(n int) uint64   { return mk(api.TagInt, n) }
func atom(n int) uint64    { return mk(api.TagAtom, n) }
func pid(n int) uint64     { return mk(api.TagPid, n) }
func forward(n int) uint64 { return mk(api.TagForward, n) }

var empty = mk(api.TagNil, 0)

func region(at int, words ...uint64) api.Frag { return api.Frag{At: at, Words: words} }

// young is a dump of a young region alone, from the address 1 on.
func young(words ...uint64) api.Dump {
	return api.Dump{Young: region(1, words...), Size: len(words)}
}

// with is d with these roots.
func with(d api.Dump, roots ...uint64) api.Dump {
	d.Roots = roots
	return d
}

// xs is n bytes of which no two neighbours are the same.
func xs(n int) string {
	var made strings.Builder
	for i := range n {
		made.WriteByte(byte(1 + i%250))
	}
	return made.String()
}

// bytesObject is the object of a HeadBytes with these bytes.
func bytesObject(s string) []uint64 {
	made := []uint64{head(api.HeadBytes, 1+(len(s)+7)/8), uint64(len(s))}
	for i := range len(s) {
		if i%8 == 0 {
			made = append(made, 0)
		}
		made[len(made)-1] += uint64(s[i]) << (8 * (i % 8))
	}
	return made
}

// bigObject is the object of a HeadBig with these limbs.
func bigObject(x api.Num) []uint64 {
	made := []uint64{head(api.HeadBig, 1+(len(x.Mag)+1)/2), 0}
	if x.Neg {
		made[1] = 1
	}
	for i, limb := range x.Mag {
		if i%2 == 0 {
			made = append(made, 0)
		}
		made[len(made)-1] += uint64(limb) << (32 * (i % 2))
	}
	return made
}

func refcObject(slot int, stamp int, many int) []uint64 {
	return []uint64{head(api.HeadRefc, 3), uint64(slot), uint64(stamp), uint64(many)}
}

func subObject(of int, from int, many int) []uint64 {
	return []uint64{head(api.HeadSub, 3), box(of), uint64(from), uint64(many)}
}

// joined are the words of several objects, one behind the other.
func joined(objects ...[]uint64) []uint64 { return slices.Concat(objects...) }

// alike holds that the roots of both dumps stand for the same terms.
func alike(a api.Dump, b api.Dump, slots []api.Slot) bool {
	return slices.EqualFunc(a.Roots, b.Roots, func(x uint64, y uint64) bool {
		s, p := look.Read(a, slots, x)
		u, q := look.Read(b, slots, y)
		return p && q && term.Same(s, u)
	})
}

func sameFrag(a api.Frag, b api.Frag) bool {
	return a.At == b.At && slices.Equal(a.Words, b.Words)
}

// same holds that two dumps are the same, whether lists are nil or empty.
func same(a api.Dump, b api.Dump) bool {
	return sameFrag(a.Young, b.Young) && sameFrag(a.Old, b.Old) && a.Size == b.Size && a.Mark == b.Mark &&
		slices.EqualFunc(a.Frags, b.Frags, sameFrag) && slices.Equal(a.Roots, b.Roots) && slices.Equal(a.Handles, b.Handles)
}
