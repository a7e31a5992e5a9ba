package wire_test

import (
	"bytes"
	"encoding/binary"
	"fmt"
	"math"
	"slices"
	"strings"

	"beehive/api"
	"beehive/term"
)

func whole(n int) api.Term { return api.Term{Kind: api.Int, N: n} }

func float(bits uint64) api.Term { return api.Term{Kind: api.Float, Bits: bits} }

func atom(n int) api.Term { return api.Term{Kind: api.Atom, N: n} }

func pid(n int) api.Term { return api.Term{Kind: api.Pid, N: n} }

func null() api.Term { return api.Term{Kind: api.Nil} }

func bin(s string) api.Term { return api.Term{Kind: api.Binary, Bytes: s} }

func xs(n int) string { return strings.Repeat("x", n) }

func large(neg bool, mag ...uint32) api.Term {
	return api.Term{Kind: api.Big, Num: api.Num{Neg: neg, Mag: mag}}
}

func limbs(n int, limb uint32) []uint32 { return slices.Repeat([]uint32{limb}, n) }

func tuple(ts ...api.Term) api.Term { return api.Term{Kind: api.Tuple, Args: ts} }

func cons(ts ...api.Term) api.Term { return api.Term{Kind: api.Cons, Args: ts} }

func list(ts ...api.Term) api.Term {
	made := null()
	for i := len(ts) - 1; i >= 0; i-- {
		made = cons(ts[i], made)
	}
	return made
}

func times(n int, t api.Term) []api.Term { return slices.Repeat([]api.Term{t}, n) }

func nested(levels int, inner api.Term) api.Term {
	for range levels {
		inner = tuple(inner)
	}
	return inner
}

// doubled has 2 to the levels-th inner terms: both Args of a Cons are one.
func doubled(levels int, inner api.Term) api.Term {
	for range levels {
		inner = cons(inner, inner)
	}
	return inner
}

// endless is a tuple that is its own last Arg.
func endless() api.Term {
	args := []api.Term{whole(1), {}}
	args[1] = tuple(args...)
	return args[1]
}

// encoded is the encoding of a valid term, by the words of the chapter.
func encoded(t api.Term) []byte {
	at, first := binary.BigEndian, []byte{byte(t.Kind)}
	switch t.Kind {
	case api.Int:
		return at.AppendUint64(first, uint64(t.N))
	case api.Big:
		all := append(first, 0, byte(len(t.Num.Mag)))
		if t.Num.Neg {
			all[1] = 1
		}
		for _, limb := range t.Num.Mag {
			all = at.AppendUint32(all, limb)
		}
		return all
	case api.Float:
		return at.AppendUint64(first, t.Bits)
	case api.Atom, api.Pid:
		return append(first, byte(t.N))
	case api.Tuple:
		return append(append(first, byte(len(t.Args))), encodedAll(t.Args)...)
	case api.Cons:
		return append(first, encodedAll(t.Args)...)
	case api.Binary:
		return append(at.AppendUint16(first, uint16(len(t.Bytes))), t.Bytes...)
	}
	return first
}

func encodedAll(ts []api.Term) []byte {
	var all [][]byte
	for _, t := range ts {
		all = append(all, encoded(t))
	}
	return bytes.Join(all, nil)
}

// edges are valid terms of every kind at its limits.
func edges() []api.Term {
	made := []api.Term{
		whole(0), whole(1), whole(-1), whole(255), whole(256), whole(-256), whole(0x0102030405060708), whole(-0x0102030405060708), whole(api.Least), whole(api.Greatest), whole(api.Least + 1), whole(api.Greatest - 1),
		large(false, 0, 1<<28), large(true, 1, 1<<28), large(true, 0, 1<<31), large(false, 0, 0, 1), large(true, 0x01020304, 0x05060708, 0x090a0b0c),
		large(false, limbs(api.MaxLimbs, math.MaxUint32)...), large(true, limbs(api.MaxLimbs, math.MaxUint32)...), large(false, append(limbs(api.MaxLimbs-1, 0), 1)...),
		atom(0), atom(1), atom(127), atom(128), atom(api.MaxAtom), pid(0), pid(1), pid(api.MaxPid),
		null(), tuple(), tuple(null()), tuple(times(api.MaxTuple, tuple())...), tuple(times(api.MaxTuple, bin("abc"))...),
		cons(null(), null()), cons(atom(1), atom(2)), list(atom(1), atom(2), atom(3)), list(list(list())), list(tuple(), bin(""), list(null())),
		bin(""), bin("\x00"), bin("\xff\x09\x00"), bin("no text: \xc3\x28"), bin(xs(255)), bin(xs(256)), bin(xs(257)), bin(xs(api.MaxBytes)),
		list(times(149, whole(-1))...), tuple(list(times(149, null())...)), nested(api.MaxWeight-1, null()), doubled(7, atom(9)),
		tuple(append(times(5, bin(xs(api.MaxBytes))), bin(xs(8*44-1)))...), tuple(list(times(99, bin(xs(8)))...), null()),
		list(times(14, large(true, limbs(api.MaxLimbs, 7)...))...),
		tuple(whole(-5), large(true, 1, 2, 3), float(api.NaN), atom(4), pid(5), tuple(null()), list(bin("a"), bin("b")), bin("c")),
	}
	for _, f := range []float64{0, 1, 1.5, 0.1, math.Pi, math.MaxFloat64, math.SmallestNonzeroFloat64, 0x1p-1022, math.Inf(1)} {
		made = append(made, float(math.Float64bits(f)), float(math.Float64bits(f)|1<<63))
	}
	return append(made, float(api.NaN))
}

// short keeps what is told of heavy terms readable.
func short(v any) string {
	told := fmt.Sprintf("%v", v)
	if len(told) > 160 {
		return told[:80] + " .. " + told[len(told)-80:]
	}
	return told
}

// dice is a sequence of bits that is the same each time.
func dice() func(int) int {
	state := uint64(1)
	return func(sides int) int {
		state = state*6364136223846793005 + 1442695040888963407
		return int((state ^ state>>29) >> 1 % uint64(sides))
	}
}

// thrown is a term of any kind, most often a valid one.
func thrown(roll func(int) int, depth int) api.Term {
	word := func() uint64 { return uint64(roll(1<<32))<<32 | uint64(roll(1<<32)) }
	kinds := []int{api.Int, api.Big, api.Float, api.Atom, api.Pid, api.Nil, api.Binary, api.Tuple, api.Cons, api.Tuple, api.Cons, api.Cons}
	if depth == 0 {
		kinds = kinds[:7]
	}
	switch kind := kinds[roll(len(kinds))]; kind {
	case api.Int:
		return whole(int(word()) >> (3 + roll(60)))
	case api.Big:
		made := large(roll(2) == 0)
		for range 2 + roll(api.MaxLimbs-1) {
			made.Num.Mag = append(made.Num.Mag, uint32(word()))
		}
		return made
	case api.Float:
		return float(word())
	case api.Atom:
		return atom(roll(api.MaxAtom + 1))
	case api.Pid:
		return pid(roll(api.MaxPid + 1))
	case api.Nil:
		return null()
	case api.Binary:
		made := make([]byte, roll(30))
		for i := range made {
			made[i] = byte(roll(256))
		}
		return bin(string(made))
	case api.Tuple:
		return tuple(thrownAll(roll, depth, roll(api.MaxTuple+1))...)
	}
	return cons(thrownAll(roll, depth, 2)...)
}

func thrownAll(roll func(int) int, depth int, many int) []api.Term {
	var made []api.Term
	for range many {
		made = append(made, thrown(roll, depth-1))
	}
	return made
}

// randoms are valid.
func randoms(many int) []api.Term {
	var made []api.Term
	for roll := dice(); len(made) < many; {
		if t := thrown(roll, 6); term.May(t) {
			made = append(made, t)
		}
	}
	return made
}
