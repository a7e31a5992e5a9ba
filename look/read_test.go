package look_test

import (
	"math"
	"math/big"
	"testing"

	"beehive/api"
	"beehive/look"
	"beehive/term"
)

// Here nothing but the chapter is asked: its example is written out.
func TestExample(t *testing.T) {
	if why := look.Why(api.Dump{}, nil); why != "" {
		t.Errorf("P12.2: Why of an empty dump: %q", why)
	}
}

// A word that leads nowhere is read, or not, whatever the dump is.
func TestReadWithoutObjects(t *testing.T) {
	slots := []api.Slot{{Stamp: 1, Count: 1, Bytes: "a"}}
	for _, d := range []api.Dump{{}, young(1, 2, 3), {Old: api.Frag{At: 0, Words: []uint64{0}}}, {Frags: make([]api.Frag, 3)}} {
		for _, n := range []int{0, 1, -1, 7, -7, 1 << 40, -1 << 40, api.Least, api.Least + 1, api.Greatest - 1, api.Greatest} {
			reads(t, "an integer", d, slots, small(n), api.Term{Kind: api.Int, N: n})
		}
		for n := -3; n <= 300; n++ {
			atom, pid := mk(api.TagAtom, n), mk(api.TagPid, n)
			if 0 <= n && n <= 255 {
				reads(t, "an atom", d, slots, atom, api.Term{Kind: api.Atom, N: n})
			} else {
				fails(t, "an atom", d, slots, atom)
			}
			if 0 <= n && n <= 63 {
				reads(t, "a pid", d, slots, pid, api.Term{Kind: api.Pid, N: n})
			} else {
				fails(t, "a pid", d, slots, pid)
			}
		}
		reads(t, "the empty list", d, slots, empty, api.Term{Kind: api.Nil})
		for _, w := range far() {
			if w>>61 == 0 && w != 0 {
				fails(t, "a nil with a load", d, slots, w<<3|api.TagNil)
			}
			fails(t, "a head", d, slots, w<<3|api.TagHead)
			fails(t, "a forward", d, slots, w<<3|api.TagForward)
			if w>>61 == 0 && w > 1<<20 {
				fails(t, "a box", d, slots, w<<3|api.TagBox)
				fails(t, "a cons", d, slots, w<<3|api.TagCons)
			}
		}
		fails(t, "a box", d, slots, box(0))
		fails(t, "a box", d, slots, box(4))
		fails(t, "a cons", d, slots, cons(9))
	}
}

// plains are words that stand for terms by themselves.
func plains() map[uint64]api.Term {
	return map[uint64]api.Term{
		small(0):                     {Kind: api.Int},
		small(api.Least):             {Kind: api.Int, N: api.Least},
		small(api.Greatest):          {Kind: api.Int, N: api.Greatest},
		mk(api.TagAtom, 0):           {Kind: api.Atom},
		mk(api.TagAtom, api.MaxAtom): {Kind: api.Atom, N: api.MaxAtom},
		mk(api.TagPid, 0):            {Kind: api.Pid},
		mk(api.TagPid, api.MaxPid):   {Kind: api.Pid, N: api.MaxPid},
		empty:                        {Kind: api.Nil},
	}
}

// wrongs are words that stand for nothing, in a dump with little memory.
func wrongs() []uint64 {
	return []uint64{
		mk(api.TagAtom, api.MaxAtom+1), mk(api.TagAtom, -1), mk(api.TagPid, api.MaxPid+1), mk(api.TagNil, 1),
		head(api.HeadTuple, 0), head(api.HeadFloat, 1), head(api.HeadTuple, 1<<20+1), head(6, 0), head(7, 1),
		mk(api.TagForward, 0), mk(api.TagForward, 1), box(0), cons(0), box(1 << 40), cons(api.Greatest),
		1<<63 | api.TagBox, 1<<63 | 1<<3 | api.TagBox, 1<<63 | 1<<3 | api.TagCons, math.MaxUint64,
	}
}

func TestReadPair(t *testing.T) {
	for a, first := range plains() {
		for b, second := range plains() {
			reads(t, "a pair", young(a, b), nil, cons(1), pair(first, second))
			reads(t, "a pair", young(7, a, b, 7), nil, cons(2), pair(first, second))
		}
		for _, wrong := range wrongs() {
			fails(t, "a pair with a wrong tail", young(a, wrong), nil, cons(1))
			fails(t, "a pair with a wrong head", young(wrong, a), nil, cons(1))
		}
		fails(t, "half a pair", young(a), nil, cons(1))
		fails(t, "half a pair", young(a, a), nil, cons(2))
		fails(t, "a pair as a box", young(a, a), nil, box(1))
		fails(t, "a head as a pair", young(head(api.HeadTuple, 1), a), nil, cons(1))
	}
	reads(t, "a pair within a tuple", young(head(api.HeadTuple, 2), empty, small(1)), nil, cons(2), pair(api.Term{Kind: api.Nil}, term.Int(1)))
}

func TestReadTuple(t *testing.T) {
	for size := 0; size <= 12; size++ {
		words, want := []uint64{head(api.HeadTuple, size)}, tuple()
		for i := range size {
			words = append(words, small(i))
			want.Args = append(want.Args, term.Int(i))
		}
		for more := range 3 {
			d := young(append(make([]uint64, more), words...)...)
			if size <= api.MaxTuple {
				reads(t, "a tuple", d, nil, box(1+more), want)
			} else {
				fails(t, "a long tuple", d, nil, box(1+more))
			}
		}
		if size > 0 {
			fails(t, "a tuple over the end", young(words[:size]...), nil, box(1))
		}
		for i := 1; i <= size; i++ {
			for _, wrong := range wrongs() {
				kept := words[i]
				words[i] = wrong
				fails(t, "a tuple with a wrong word", young(words...), nil, box(1))
				words[i] = kept
			}
		}
		fails(t, "a tuple as a pair", young(words...), nil, cons(1))
	}
	for plain, want := range plains() {
		reads(t, "a tuple of one", young(head(api.HeadTuple, 1), plain), nil, box(1), tuple(want))
	}
}

// limbs are those of n, which is not 0.
func limbs(n *big.Int) api.Num {
	made := api.Num{Neg: n.Sign() < 0}
	rest, base := new(big.Int).Abs(n), big.NewInt(1<<32)
	for rest.Sign() > 0 {
		limb := new(big.Int)
		rest.DivMod(rest, base, limb)
		made.Mag = append(made.Mag, uint32(limb.Uint64()))
	}
	return made
}

func TestReadBig(t *testing.T) {
	least, greatest, most := big.NewInt(api.Least), big.NewInt(api.Greatest), new(big.Int).Lsh(big.NewInt(1), 256)
	for bit := 0; bit < 290; bit++ {
		for by := int64(-2); by <= 2; by++ {
			n := new(big.Int).Add(new(big.Int).Lsh(big.NewInt(1), uint(bit)), big.NewInt(by))
			for range 2 {
				n.Neg(n)
				if n.Sign() == 0 {
					continue
				}
				x := limbs(n)
				d := young(bigObject(x)...)
				if (n.Cmp(least) < 0 || n.Cmp(greatest) > 0) && n.CmpAbs(most) < 0 {
					reads(t, "an integer", d, nil, box(1), api.Term{Kind: api.Big, Num: x})
				} else {
					fails(t, "no Big", d, nil, box(1))
				}
				fails(t, "an integer as a pair", d, nil, cons(1))
			}
		}
	}
}

func TestReadBigWrong(t *testing.T) {
	good := []uint64{5, 6, 7, 1 << 40}
	for pairs := 0; pairs <= 6; pairs++ {
		words := []uint64{head(api.HeadBig, 1+pairs), 0}
		for i := range pairs {
			words = append(words, uint64(i+1)<<61|3)
		}
		d := young(words...)
		if 1 <= pairs && pairs <= 4 {
			if got, ok := look.Read(d, nil, box(1)); !ok || len(got.Num.Mag) != 2*pairs {
				t.Errorf("P12.1: %d pairs of limbs: %v, %v", pairs, got, ok)
			}
		} else {
			fails(t, "a wrong number of limbs", d, nil, box(1))
		}
		for first := range 64 {
			words[1] = 1 << first
			if first > 0 {
				fails(t, "a sign that is none", young(words...), nil, box(1))
			}
		}
		words[1] = math.MaxUint64
		fails(t, "a sign that is none", young(words...), nil, box(1))
	}
	fails(t, "no words", young(head(api.HeadBig, 0)), nil, box(1))
	fails(t, "no words, others behind", young(head(api.HeadBig, 0), 0, 1<<62), nil, box(1))
	for n := 1; n <= len(good); n++ {
		words := append([]uint64{head(api.HeadBig, 1+n), 1}, good[:n]...)
		words[1+n] = 0
		fails(t, "a last word of 0", young(words...), nil, box(1))
		words[1+n] = 1
		if n == 1 {
			fails(t, "a small integer", young(words...), nil, box(1))
		} else if got, ok := look.Read(young(words...), nil, box(1)); !ok || len(got.Num.Mag) != 2*n-1 || !got.Num.Neg {
			t.Errorf("P12.1: %d limbs: %v, %v", 2*n-1, got, ok)
		}
		words[1+n] = 1 << 32
		if got, ok := look.Read(young(words...), nil, box(1)); ok != (n > 1) || ok && (len(got.Num.Mag) != 2*n || got.Num.Mag[2*n-2] != 0) {
			t.Errorf("P12.1: %d limbs: %v, %v", 2*n, got, ok)
		}
		fails(t, "limbs over the end", young(words[:1+n]...), nil, box(1))
	}
}

func TestReadFloat(t *testing.T) {
	for _, bits := range append(far(), math.Float64bits(1.5), math.Float64bits(math.Inf(-1)), math.Float64bits(math.Inf(1)), api.NaN, api.NaN+1, api.NaN-1, api.NaN|1<<63, 1<<63, 0x7FF0000000000001, 0xFFF0000000000000, 0xFFF8000000000000) {
		valid := !math.IsNaN(math.Float64frombits(bits)) || bits == api.NaN
		for size := 0; size <= 3; size++ {
			d := young(head(api.HeadFloat, size), bits, 0, 0)
			if valid && size == 1 {
				reads(t, "a float", d, nil, box(1), api.Term{Kind: api.Float, Bits: bits})
			} else {
				fails(t, "no float", d, nil, box(1))
			}
			fails(t, "a float as a pair", d, nil, cons(1))
		}
	}
	fails(t, "a float over the end", young(head(api.HeadFloat, 1)), nil, box(1))
}

func TestReadBytes(t *testing.T) {
	for n := 0; n <= 90; n++ {
		words := bytesObject(xs(n))
		if n > api.HeapBytes {
			fails(t, "too many bytes", young(words...), nil, box(1))
			continue
		}
		reads(t, "bytes", young(words...), nil, box(1), bin(xs(n)))
		reads(t, "bytes ahead of others", young(append(words, 5, 6)...), nil, box(1), bin(xs(n)))
		fails(t, "bytes over the end", young(words[:len(words)-1]...), nil, box(1))
		fails(t, "bytes as a pair", young(words...), nil, cons(1))
		for size := 0; size <= 12; size++ {
			if size != len(words)-1 {
				d := young(append(append([]uint64{head(api.HeadBytes, size)}, words[1:]...), make([]uint64, 12)...)...)
				fails(t, "a wrong size", d, nil, box(1))
			}
		}
		for unused := n % 8; unused > 0 && unused < 8; unused++ {
			words[len(words)-1] += 1 << (8 * unused)
			fails(t, "an unused byte", young(words...), nil, box(1))
			words[len(words)-1] += 127 << (8 * unused)
			fails(t, "an unused byte", young(words...), nil, box(1))
			words[len(words)-1] -= 128 << (8 * unused)
		}
		for _, many := range far() {
			if many != uint64(n) && (many > 90 || (many+7)/8 != uint64(len(words)-2)) {
				words[1] = many
				fails(t, "a wrong number of bytes", young(words...), nil, box(1))
			}
		}
		words[1] = negative(n + 1)
		fails(t, "a number of bytes below 0", young(words...), nil, box(1))
	}
	for b := range 256 {
		s := string([]byte{0, byte(b), 0, byte(b), 0, 0, 0, 0, byte(b), 0})
		reads(t, "any bytes", young(bytesObject(s)...), nil, box(1), bin(s))
	}
	reads(t, "zeros", young(head(api.HeadBytes, 2), 8, 0), nil, box(1), bin("\x00\x00\x00\x00\x00\x00\x00\x00"))
}

func TestReadRefc(t *testing.T) {
	slots := []api.Slot{
		{Stamp: 2, Count: 1, Bytes: "abc"},
		{Stamp: 5, Count: 0},
		{Stamp: 1 << 30, Count: 9, Bytes: xs(400)},
		{Stamp: 0, Count: 1, Bytes: ""},
		{Stamp: 3, Count: 1, Bytes: xs(401)},
		{Stamp: 1<<30 + 1, Count: 1, Bytes: "ab"},
		{Stamp: -1, Count: 1, Bytes: "ab"},
		{Stamp: 7, Count: 0, Bytes: "free"},
	}
	for slot := range len(slots) + 3 {
		for _, stamp := range append(far(), 5, 6, 7, negative(5)) {
			for _, many := range []uint64{0, 1, 2, 3, 4, 399, 400, 401, 1 << 40, 1<<63 + 3, negative(1), negative(3)} {
				d := young(head(api.HeadRefc, 3), uint64(slot), stamp, many)
				good := slot < len(slots) && stamp <= 1<<30 && slots[slot].Stamp == int(stamp) &&
					slots[slot].Count != 0 && len(slots[slot].Bytes) == int(many) && many <= 400
				if good {
					reads(t, "a refc", d, slots, box(1), bin(slots[slot].Bytes))
				} else {
					fails(t, "no refc", d, slots, box(1))
				}
				fails(t, "no slots", d, nil, box(1))
				fails(t, "a refc as a pair", d, slots, cons(1))
			}
		}
	}
	for _, slot := range far() {
		if slot > 7 {
			fails(t, "no slot", young(head(api.HeadRefc, 3), slot, 2, 3), slots, box(1))
		}
	}
	for size := 0; size <= 6; size++ {
		d := young(head(api.HeadRefc, size), 0, 2, 3, 0, 0, 0)
		if _, ok := look.Read(d, slots, box(1)); ok != (size == 3) {
			t.Errorf("P12.1: a HeadRefc of size %d: %v", size, ok)
		}
	}
	for n := 1; n <= 3; n++ {
		fails(t, "a refc over the end", young([]uint64{head(api.HeadRefc, 3), 0, 2, 3}[:n]...), slots, box(1))
	}
	// A slot that is not free is one whose Count is not 0.
	reads(t, "a negative count", young(head(api.HeadRefc, 3), 0, 1, 1), []api.Slot{{Stamp: 1, Count: -1, Bytes: "x"}}, box(1), bin("x"))
}

// The number of a slot may be as great as 2^30, and no greater; a slot beyond
// it is out of reach, even if it is there.
func TestReadRefcOfFarSlots(t *testing.T) {
	if testing.Short() {
		t.Skip("many slots")
	}
	slots := make([]api.Slot, 1<<20+2)
	slots[1<<20] = api.Slot{Stamp: 1, Count: 1, Bytes: "far"}
	reads(t, "a far slot", young(head(api.HeadRefc, 3), 1<<20, 1, 3), slots, box(1), bin("far"))
	fails(t, "a free slot", young(head(api.HeadRefc, 3), 1<<20+1, 0, 0), slots, box(1))
	fails(t, "behind the slots", young(head(api.HeadRefc, 3), 1<<20+2, 0, 0), slots, box(1))
}

func TestReadSub(t *testing.T) {
	slots := []api.Slot{{Stamp: 2, Count: 1, Bytes: xs(100)}}
	targets := map[string][]uint64{xs(100): {head(api.HeadRefc, 3), 0, 2, 100}}
	for _, n := range []int{0, 1, 2, 7, 8, 9, 63, 64} {
		targets[xs(n)] = bytesObject(xs(n))
	}
	for all, words := range targets {
		var numbers []uint64
		for n := range len(all) + 3 {
			numbers = append(numbers, uint64(n))
		}
		numbers = append(numbers, negative(1), negative(2), negative(len(all)), 1<<63, 1<<63-1, 1<<32, 1<<61)
		for _, from := range numbers {
			for _, many := range numbers {
				d := young(append([]uint64{head(api.HeadSub, 3), box(5), from, many}, words...)...)
				if from <= uint64(len(all)) && many <= uint64(len(all))-from {
					reads(t, "a part", d, slots, box(1), bin(all[from:from+many]))
				} else {
					fails(t, "no part", d, slots, box(1))
				}
			}
		}
	}
}

func TestReadSubWrong(t *testing.T) {
	slots := []api.Slot{{Stamp: 2, Count: 1, Bytes: "abc"}, {Stamp: 3, Count: 0, Bytes: "abc"}}
	sub := func(first uint64, words ...uint64) api.Dump {
		return young(append([]uint64{head(api.HeadSub, 3), first, 0, 0}, words...)...)
	}
	target := bytesObject("hi")
	reads(t, "a part", sub(box(5), target...), slots, box(1), bin(""))
	for tag := range 8 {
		if tag != api.TagBox {
			fails(t, "another tag", sub(mk(tag, 5), target...), slots, box(1))
			fails(t, "another tag", sub(mk(tag, 0), target...), slots, box(1))
		}
	}
	for name, words := range map[string][]uint64{
		"nothing":            {},
		"no head":            {0, 0, 0},
		"a pair":             {empty, empty},
		"an empty tuple":     {head(api.HeadTuple, 0)},
		"a tuple":            {head(api.HeadTuple, 3), 0, 16, 0},
		"an integer":         {head(api.HeadBig, 3), 0, 1 << 62, 1 << 62},
		"a float":            {head(api.HeadFloat, 1), 0},
		"a part":             {head(api.HeadSub, 3), box(9), 0, 0, head(api.HeadBytes, 2), 2, 7},
		"itself":             {head(api.HeadSub, 3), box(5), 0, 0},
		"the part itself":    {head(api.HeadSub, 3), box(1), 0, 0},
		"bytes over the end": {head(api.HeadBytes, 2), 2},
		"unused bytes":       {head(api.HeadBytes, 2), 2, 1 << 16},
		"too many bytes":     append([]uint64{head(api.HeadBytes, 10), 65}, make([]uint64, 9)...),
		"no bytes at all":    {head(api.HeadBytes, 0), 0},
		"a free slot":        {head(api.HeadRefc, 3), 1, 3, 3},
		"another stamp":      {head(api.HeadRefc, 3), 0, 3, 3},
		"another length":     {head(api.HeadRefc, 3), 0, 2, 2},
		"no slot":            {head(api.HeadRefc, 3), 2, 2, 3},
		"a short refc":       {head(api.HeadRefc, 2), 0, 2, 3},
		"a long refc":        {head(api.HeadRefc, 4), 0, 2, 3, 0},
		"too long a refc":    {head(api.HeadRefc, 3), 0, 2, 401},
	} {
		fails(t, "a part of "+name, sub(box(5), words...), slots, box(1))
	}
	fails(t, "a part of itself", sub(box(1)), slots, box(1))
	for size := 0; size <= 6; size++ {
		d := young(append([]uint64{head(api.HeadSub, size), box(8), 0, 1, 0, 0, 0}, target...)...)
		if _, ok := look.Read(d, slots, box(1)); ok != (size == 3) {
			t.Errorf("P12.1: a HeadSub of size %d: %v", size, ok)
		}
	}
	d := young(append(target, head(api.HeadSub, 3), box(1), 0, 1)...)
	reads(t, "a part behind", d, slots, box(4), bin("h"))
	d.Young.Words = d.Young.Words[:6]
	fails(t, "a part over the end", d, slots, box(4))
	fails(t, "a part as a pair", sub(box(5), target...), slots, cons(1))
}

// Every kind of head, with every size, over words of which each stands for a
// small number, is an object only where the chapter says so.
func TestReadEachHead(t *testing.T) {
	slots := []api.Slot{{}, {Stamp: 1, Count: 1, Bytes: "x"}}
	for kind := range 8 {
		for _, size := range []int{0, 1, 2, 3, 4, 5, 6, 7, 8, 9, 10, 11, 64, 1 << 20, 1<<20 + 1, 1 << 40} {
			for _, each := range []uint64{0, 1, 8, 16, box(1), cons(1), 1 << 61, math.MaxUint64} {
				words := []uint64{head(kind, size)}
				for range min(size, 1<<20+1) {
					words = append(words, each)
				}
				d := young(words...)
				m := model{d, slots}
				want, good := m.read(box(1))
				if good {
					reads(t, "a head", d, slots, box(1), want)
				} else {
					fails(t, "a head", d, slots, box(1))
				}
				if size > 64 {
					break
				}
			}
		}
	}
}
