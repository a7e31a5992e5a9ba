package wire_test

import (
	"bytes"
	"math"
	"reflect"
	"slices"
	"strings"
	"sync"
	"testing"

	"beehive/api"
	"beehive/term"
	"beehive/wire"
)

func checkLay(t *testing.T, x api.Term, want []byte) {
	t.Helper()
	if got, err := wire.Lay(x); err != api.OK || !bytes.Equal(got, want) {
		t.Errorf("P7.1: Lay(%s): %.80x, %d, not %.80x", short(x), got, err, want)
	}
}

func checkRead(t *testing.T, b []byte, at int, want api.Term, after int) {
	t.Helper()
	if got, end, ok := wire.Read(b, at); !ok || end != after || !reflect.DeepEqual(got, want) {
		t.Errorf("P7.1: Read(%.80x, %d): %s, %d, %v, not %s, %d", b, at, short(got), end, ok, short(want), after)
	}
}

func checkNone(t *testing.T, name string, b []byte, at int) {
	t.Helper()
	if got, end, ok := wire.Read(b, at); ok || end != 0 || !reflect.DeepEqual(got, api.Term{}) {
		t.Errorf("P7.1: Read of %s, %.40x, at %d: %s, %d, %v", name, b, at, short(got), end, ok)
	}
}

// A test of the encodings byte by byte: here nothing but the chapter is asked.
func TestBytesOfEveryKind(t *testing.T) {
	for _, x := range []struct {
		t    api.Term
		want string
	}{
		{whole(0), "\x01\x00\x00\x00\x00\x00\x00\x00\x00"},
		{whole(258), "\x01\x00\x00\x00\x00\x00\x00\x01\x02"},
		{whole(-1), "\x01\xff\xff\xff\xff\xff\xff\xff\xff"},
		{whole(-256), "\x01\xff\xff\xff\xff\xff\xff\xff\x00"},
		{whole(0x0102030405060708), "\x01\x01\x02\x03\x04\x05\x06\x07\x08"},
		{whole(api.Greatest), "\x01\x0f\xff\xff\xff\xff\xff\xff\xff"},
		{whole(api.Least), "\x01\xf0\x00\x00\x00\x00\x00\x00\x00"},
		{large(false, 0, 1<<28), "\x02\x00\x02\x00\x00\x00\x00\x10\x00\x00\x00"},
		{large(true, 1, 1<<28), "\x02\x01\x02\x00\x00\x00\x01\x10\x00\x00\x00"},
		{large(true, 0x01020304, 0x05060708, 0xfffefdfc), "\x02\x01\x03\x01\x02\x03\x04\x05\x06\x07\x08\xff\xfe\xfd\xfc"},
		{large(false, limbs(api.MaxLimbs, math.MaxUint32)...), "\x02\x00\x08" + strings.Repeat("\xff", 32)},
		{float(0), "\x03\x00\x00\x00\x00\x00\x00\x00\x00"},
		{float(1 << 63), "\x03\x80\x00\x00\x00\x00\x00\x00\x00"},
		{float(math.Float64bits(1.5)), "\x03\x3f\xf8\x00\x00\x00\x00\x00\x00"},
		{float(math.Float64bits(math.Inf(-1))), "\x03\xff\xf0\x00\x00\x00\x00\x00\x00"},
		{float(math.Float64bits(math.MaxFloat64)), "\x03\x7f\xef\xff\xff\xff\xff\xff\xff"},
		{float(1), "\x03\x00\x00\x00\x00\x00\x00\x00\x01"},
		{float(api.NaN), "\x03\x7f\xf8\x00\x00\x00\x00\x00\x01"},
		{atom(0), "\x04\x00"},
		{atom(api.MaxAtom), "\x04\xff"},
		{pid(0), "\x05\x00"},
		{pid(api.MaxPid), "\x05\x3f"},
		{tuple(), "\x06\x00"},
		{tuple(atom(1), tuple(), pid(2)), "\x06\x03\x04\x01\x06\x00\x05\x02"},
		{tuple(times(api.MaxTuple, null())...), "\x06\x08\x07\x07\x07\x07\x07\x07\x07\x07"},
		{null(), "\x07"},
		{cons(atom(1), atom(2)), "\x08\x04\x01\x04\x02"},
		{list(atom(1), atom(2)), "\x08\x04\x01\x08\x04\x02\x07"},
		{cons(cons(null(), atom(1)), atom(2)), "\x08\x08\x07\x04\x01\x04\x02"},
		{bin(""), "\x09\x00\x00"},
		{bin("hi\x00\xff"), "\x09\x00\x04hi\x00\xff"},
		{bin(xs(255)), "\x09\x00\xff" + xs(255)},
		{bin(xs(256)), "\x09\x01\x00" + xs(256)},
		{bin(xs(api.MaxBytes)), "\x09\x01\x90" + xs(400)},
	} {
		checkLay(t, x.t, []byte(x.want))
		checkRead(t, []byte(x.want), 0, x.t, len(x.want))
	}
}

func TestEdges(t *testing.T) {
	for _, x := range edges() {
		if !term.May(x) {
			t.Errorf("a term of the tests is not valid: %s", short(x))
		}
		checkLay(t, x, encoded(x))
		checkRead(t, encoded(x), 0, x, len(encoded(x)))
	}
}

func TestRandomTerms(t *testing.T) {
	for _, x := range randoms(3000) {
		checkLay(t, x, encoded(x))
		checkRead(t, encoded(x), 0, x, len(encoded(x)))
	}
}

// What stands ahead and behind is not looked at, even if it looks like more.
func TestAnyOffset(t *testing.T) {
	for _, ahead := range []string{"", "\x07", "ab", "\x09\xff\xff", "\x08\x08\x08\x08", strings.Repeat("\x06\x08", 1000)} {
		for _, behind := range []string{"", "\x07", "\x00", "\x08\x08", "\xff\xff\xff\xff\xff\xff\xff\xff\xff", xs(1000)} {
			for _, x := range edges() {
				b := slices.Concat([]byte(ahead), encoded(x), []byte(behind))
				checkRead(t, b, len(ahead), x, len(b)-len(behind))
			}
		}
	}
}

func TestOneAfterTheOther(t *testing.T) {
	all, b := slices.Concat(edges(), randoms(200)), []byte("ahead")
	for _, x := range all {
		b = append(b, encoded(x)...)
	}
	at := len("ahead")
	for i, x := range all {
		got, end, ok := wire.Read(b, at)
		if !ok || !reflect.DeepEqual(got, x) || end != at+len(encoded(x)) {
			t.Fatalf("P7.1: the term %d: %s, %d, %v", i, short(got), end, ok)
		}
		at = end
	}
	checkNone(t, "nothing behind the last one", b, at)
}

// A part of a term is one too: it may be read where it begins.
func TestParts(t *testing.T) {
	b := encoded(tuple(atom(1), list(bin("ab"), whole(-7))))
	checkRead(t, b, 2, atom(1), 4)
	checkRead(t, b, 4, list(bin("ab"), whole(-7)), len(b))
	checkRead(t, b, 5, bin("ab"), 10)
	checkRead(t, b, 10, list(whole(-7)), len(b))
	checkRead(t, b, len(b)-1, null(), len(b))
}

// The unused capacity holds the rest, which is not to be read.
func TestCutShort(t *testing.T) {
	for _, x := range slices.Concat(edges(), randoms(100)) {
		b := slices.Concat([]byte("ab"), encoded(x))
		for end := 2; end < len(b); end++ {
			checkNone(t, "bytes that are cut short", b[:end], 2)
			checkNone(t, "bytes without capacity that are cut short", b[:end:end], 2)
		}
	}
}

func TestOffsetsOutside(t *testing.T) {
	for _, b := range [][]byte{nil, {}, {api.Nil}, encoded(list(atom(7), null())), bytes.Repeat([]byte{api.Nil}, 300)} {
		for _, at := range []int{-1, -2, -len(b), -len(b) - 1, len(b), len(b) + 1, len(b) + 2, math.MaxInt, math.MaxInt - 1, math.MinInt, math.MinInt + 1, 1 << 32, -1 << 32} {
			if at != 0 || len(b) == 0 {
				checkNone(t, "an offset outside", b, at)
			}
		}
		// Behind the length there is nothing, whatever the capacity holds.
		if len(b) > 1 {
			checkNone(t, "an offset in the unused capacity", b[:len(b)-1], len(b)-1)
			checkNone(t, "an offset in the unused capacity of nothing", b[:0], len(b)-1)
		}
	}
}

func TestKindsThatAreNone(t *testing.T) {
	behind := "\x01" + strings.Repeat("\x00", 300)
	for kind := range 256 {
		if api.Int <= kind && kind <= api.Binary {
			continue
		}
		for name, b := range map[string]string{
			"a kind that is none":           string([]byte{byte(kind)}),
			"such a kind with bytes behind": string([]byte{byte(kind)}) + behind,
			"such a kind in a Tuple":        "\x06\x02\x07" + string([]byte{byte(kind)}) + behind,
			"such a kind in a Cons":         "\x08" + string([]byte{byte(kind)}) + "\x07",
			"such a kind as a tail":         "\x08\x07" + string([]byte{byte(kind)}) + "\x07",
		} {
			checkNone(t, name, []byte(b), 0)
		}
	}
}

// wrong looks like the encoding of a term, which is not valid.
func wrong() map[string]string {
	const zeros, full = "\x00\x00\x00\x00", "\xff\xff\xff\xff"
	return map[string]string{
		"an Int above Greatest":            "\x01\x10" + zeros + "\x00\x00\x00",
		"the greatest Int":                 "\x01\x7f" + full + "\xff\xff\xff",
		"an Int below Least":               "\x01\xef" + full + "\xff\xff\xff",
		"the least Int":                    "\x01\x80" + zeros + "\x00\x00\x00",
		"a Big of 0":                       "\x02\x00\x00",
		"a Big of -0":                      "\x02\x01\x00",
		"a Big of 1":                       "\x02\x00\x01\x00\x00\x00\x01",
		"a Big of one limb":                "\x02\x01\x01" + full,
		"a Big of Greatest":                "\x02\x00\x02" + full + "\x0f\xff\xff\xff",
		"a Big of Least":                   "\x02\x01\x02" + zeros + "\x10\x00\x00\x00",
		"a Big with a last limb 0":         "\x02\x00\x03" + full + full + zeros,
		"a Big of limbs that are 0":        "\x02\x01\x03" + zeros + zeros + zeros,
		"a Big of nine limbs":              "\x02\x00\x09" + strings.Repeat(full, 9),
		"a Big of nine limbs, the last 0":  "\x02\x00\x09" + strings.Repeat(full, 8) + zeros,
		"a Big of 255 limbs":               "\x02\x00\xff" + strings.Repeat(full, 255),
		"a Big whose sign is 2":            "\x02\x02\x02" + full + full,
		"a Big whose sign is 255":          "\x02\xff\x02" + full + full,
		"a Big whose sign is 128":          "\x02\x80\x02" + full + full,
		"a NaN below":                      "\x03\x7f\xf8" + zeros + "\x00\x00",
		"a NaN above":                      "\x03\x7f\xf8" + zeros + "\x00\x02",
		"a NaN with a sign":                "\x03\xff\xf8" + zeros + "\x00\x01",
		"a signaling NaN":                  "\x03\x7f\xf0" + zeros + "\x00\x01",
		"all bits":                         "\x03" + full + full,
		"a Pid above MaxPid":               "\x05\x40",
		"the Pid 255":                      "\x05\xff",
		"a Tuple of nine":                  "\x06\x09" + strings.Repeat("\x07", 9),
		"a Tuple of 255":                   "\x06\xff" + strings.Repeat("\x07", 255),
		"a Tuple of nine with less behind": "\x06\x09" + strings.Repeat("\x07", 8),
		"a Binary of MaxBytes + 1":         "\x09\x01\x91" + xs(401),
		"a Binary of 2^16 - 1":             "\x09\xff\xff" + xs(1<<16-1),
	}
}

func TestTermsThatAreNotValid(t *testing.T) {
	for name, b := range wrong() {
		checkNone(t, name, []byte(b), 0)
		checkNone(t, name+", with bytes behind", []byte(b+xs(2000)), 0)
		checkNone(t, name+", with terms behind", []byte(b+strings.Repeat("\x07", 2000)), 0)
		checkNone(t, name+" behind other bytes", []byte("ab"+b), 2)
		checkNone(t, name+" as a head", []byte("\x08"+b+"\x07"), 0)
		checkNone(t, name+" as a tail", []byte("\x08\x07"+b), 0)
		checkNone(t, name+" as a last Arg", []byte("\x06\x08"+strings.Repeat("\x07", 7)+b), 0)
		checkNone(t, name+" deep in Tuples", []byte(strings.Repeat("\x06\x01", 200)+b), 0)
	}
}

func TestTooHeavy(t *testing.T) {
	const most = api.MaxWeight
	inner := string(encoded(list(times(148, null())...)))
	for _, x := range []struct {
		name, b string
		want    bool
	}{
		{"a list of weight 299", strings.Repeat("\x08\x07", 149) + "\x07", true},
		{"a Tuple of a list of weight 299", "\x06\x01" + strings.Repeat("\x08\x07", 149) + "\x07", true},
		{"a list of weight 301", strings.Repeat("\x08\x07", 150) + "\x07", false},
		{"Tuples of weight 300", strings.Repeat("\x06\x01", most-1) + "\x07", true},
		{"Tuples of weight 301", strings.Repeat("\x06\x01", most) + "\x07", false},
		{"heads of weight 299", strings.Repeat("\x08", 149) + strings.Repeat("\x07", 150), true},
		{"heads of weight 301", strings.Repeat("\x08", 150) + strings.Repeat("\x07", 151), false},
		{"a Tuple of parts of weight 300", "\x06\x03" + inner + "\x07\x07", true},
		{"a Tuple of parts of weight 301", "\x06\x04" + inner + "\x07\x07\x07", false},
		{"a part whose limbs weigh too much", "\x06\x02" + inner + "\x02\x00\x02" + strings.Repeat("\xff", 8), false},
		{"a part whose limbs weigh no more", "\x08" + string(encoded(list(times(147, null())...))) + "\x02\x00\x03" + strings.Repeat("\xff", 12), true},
		{"a part whose bytes weigh too much", "\x06\x02" + inner + "\x09\x00\x10" + xs(16), false},
		{"a part whose bytes weigh no more", "\x06\x02" + inner + "\x09\x00\x0f" + xs(15), true},
		{"Binaries of weight 307", "\x06\x06" + strings.Repeat("\x09\x01\x90"+xs(400), 6), false},
	} {
		t1, end, ok := wire.Read([]byte(x.b), 0)
		if ok != x.want || ok && (end != len(x.b) || !bytes.Equal(encoded(t1), []byte(x.b))) {
			t.Errorf("P7.1: Read of %s: %v, %d", x.name, ok, end)
		}
		if !x.want {
			checkNone(t, x.name, []byte(x.b), 0)
		}
	}
}

// However much the bytes promise, the weight is the bound.
func TestManyBytes(t *testing.T) {
	for _, b := range []string{"\x08", "\x08\x07", "\x08\x08\x07", "\x06\x01", "\x06\x08", "\x06\xff", "\x06\x02\x07", "\x02\x02\x08", "\x09\xff\xff", "\x09", "\x08\x09\x01\x90" + xs(400)} {
		checkNone(t, "many bytes", []byte(strings.Repeat(b, 1<<22/len(b))), 0)
	}
	b := bytes.Repeat([]byte{api.Nil}, 1<<22)
	for _, at := range []int{0, 1, 1 << 21, 1<<22 - 1} {
		checkRead(t, b, at, null(), at+1)
	}
}

// checkSound holds that what is read is valid and has these very bytes.
func checkSound(t *testing.T, b []byte, at int) {
	t.Helper()
	got, end, ok := wire.Read(b, at)
	if !ok {
		checkNone(t, "any bytes", b, at)
		return
	}
	if !term.May(got) || end <= at || end > len(b) || !bytes.Equal(encoded(got), b[at:end]) {
		t.Errorf("P7.1: Read(%.80x, %d): %s, %d", b, at, short(got), end)
	}
}

func TestOneByteIsAnother(t *testing.T) {
	for _, x := range edges() {
		b := encoded(x)
		// Of long ones, the first bytes and the last ones.
		for i := range b {
			if 40 <= i && i < len(b)-20 {
				continue
			}
			for _, other := range []byte{0, 1, 2, 6, 7, 8, 9, 10, b[i] + 1, b[i] - 1, b[i] ^ 0x80, b[i] ^ 0x10, 0x7f, 0xff} {
				changed := slices.Clone(b)
				changed[i] = other
				checkSound(t, changed, 0)
			}
		}
	}
}

func TestAnyBytes(t *testing.T) {
	roll := dice()
	for range 50000 {
		b := make([]byte, roll(60))
		for i := range b {
			b[i] = byte(roll(11))
			if roll(4) == 0 {
				b[i] = byte(roll(256))
			}
		}
		checkSound(t, b, roll(3))
	}
}

// terms5 are, by how long their encodings are, all terms whose encodings have
// at most 5 bytes, each of them one of these.
func terms5(digits []byte) [6][]api.Term {
	var made [6][]api.Term
	// parts are all rows of terms whose encodings have so many bytes together.
	var parts func(many int, long int) [][]api.Term
	parts = func(many int, long int) [][]api.Term {
		if many == 0 && long == 0 {
			return [][]api.Term{nil}
		}
		var rows [][]api.Term
		for first := 1; many > 0 && first <= long; first++ {
			for _, t := range made[first] {
				for _, row := range parts(many-1, long-first) {
					rows = append(rows, append([]api.Term{t}, row...))
				}
			}
		}
		return rows
	}
	made[1] = []api.Term{null()}
	made[3] = []api.Term{bin("")}
	for _, a := range digits {
		made[2] = append(made[2], atom(int(a)), pid(int(a)))
		made[4] = append(made[4], bin(string([]byte{a})))
		for _, b := range digits {
			made[5] = append(made[5], bin(string([]byte{a, b})))
		}
	}
	for long := 2; long <= 5; long++ {
		for _, row := range parts(2, long-1) {
			made[long] = append(made[long], cons(row...))
		}
		for many := range 4 {
			for _, row := range parts(many, long-2) {
				made[long] = append(made[long], tuple(row...))
			}
		}
	}
	return made
}

// Of all bytes, those are read that begin with the encoding of a term.
func TestAllOfFiveBytes(t *testing.T) {
	digits := []byte{0, 1, 2, 4, 5, 6, 7, 8, 9}
	known := map[string]api.Term{}
	for _, ts := range terms5(digits) {
		for _, x := range ts {
			known[string(encoded(x))] = x
		}
	}
	read := 0
	for n := range 9 * 9 * 9 * 9 * 9 {
		b := make([]byte, 5)
		for i := range b {
			b[i] = digits[n%9]
			n /= 9
		}
		end := 1
		for end <= 5 && known[string(b[:end])].Kind == 0 {
			end++
		}
		if end > 5 {
			checkNone(t, "five bytes", b, 0)
			continue
		}
		read++
		checkRead(t, b, 0, known[string(b[:end])], end)
	}
	if read < 10000 {
		t.Errorf("only %d were to be read", read)
	}
}

func TestLayOfTermsThatAreNotValid(t *testing.T) {
	for name, x := range notValid() {
		if term.May(x) {
			t.Errorf("a term of the tests is valid: %s", name)
		}
		for around, y := range map[string]api.Term{"": x, " in a Tuple": tuple(null(), x), " as a head": cons(x, null()), " as a tail": cons(null(), x), " deep in Tuples": nested(200, x)} {
			if got, err := wire.Lay(y); err != api.ErrArg || len(got) != 0 {
				t.Errorf("P7.1: Lay of %s%s: %.40x, %d", name, around, got, err)
			}
		}
	}
}

func notValid() map[string]api.Term {
	all := map[string]api.Term{
		"a zero term":              {},
		"no kind":                  {Kind: 10},
		"no kind below 0":          {Kind: -1},
		"a kind that wraps":        {Kind: api.Nil + 256},
		"above Greatest":           whole(api.Greatest + 1),
		"below Least":              whole(api.Least - 1),
		"the least int":            whole(math.MinInt),
		"a Big of 0":               large(false),
		"a Big of -0":              large(true),
		"a Big of 1":               large(false, 1),
		"a Big of Greatest":        large(false, math.MaxUint32, 1<<28-1),
		"a Big of Least":           large(true, 0, 1<<28),
		"a last limb of 0":         large(false, 1, 2, 3, 0),
		"nine limbs":               large(false, limbs(9, 1)...),
		"many limbs":               large(false, limbs(1<<16, 1)...),
		"the NaN below":            float(api.NaN - 1),
		"the NaN above":            float(api.NaN + 1),
		"a NaN below 0":            float(api.NaN | 1<<63),
		"the Atom -1":              atom(-1),
		"the Atom MaxAtom + 1":     atom(api.MaxAtom + 1),
		"an Atom that wraps":       atom(1 << 32),
		"the Pid -1":               pid(-1),
		"the Pid MaxPid + 1":       pid(api.MaxPid + 1),
		"a Tuple of nine":          tuple(times(9, null())...),
		"a Tuple of many":          tuple(times(1<<16, null())...),
		"a Cons of none":           cons(),
		"a Cons of one":            cons(null()),
		"a Cons of three":          cons(null(), null(), null()),
		"a Binary of MaxBytes + 1": bin(xs(api.MaxBytes + 1)),
		"a Binary of many":         bin(xs(1 << 20)),
		"a list of weight 301":     list(times(150, null())...),
		"Tuples of weight 301":     nested(api.MaxWeight, null()),
		"Tuples of 1000 levels":    nested(1000, null()),
		"a term that shares":       doubled(1000, null()),
		"an endless term":          endless(),
	}
	for kind := api.Int; kind <= api.Binary; kind++ {
		for name, field := range map[string]api.Term{"N": {N: 1}, "limbs": {Num: api.Num{Mag: []uint32{1, 2, 3}}}, "a sign": {Num: api.Num{Neg: true}}, "bits": {Bits: 1}, "bytes": {Bytes: "\x00"}, "Args": {Args: []api.Term{null(), null(), null()}}} {
			field.Kind = kind
			if !term.May(field) {
				all[string([]byte{'0' + byte(kind)})+" with "+name] = field
			}
		}
	}
	return all
}

// An empty slice is as good as none.
func TestEmptySlices(t *testing.T) {
	for _, x := range edges() {
		y := x
		if len(y.Args) == 0 {
			y.Args = []api.Term{}
		}
		if len(y.Num.Mag) == 0 {
			y.Num.Mag = []uint32{}
		}
		checkLay(t, y, encoded(x))
	}
}

// roomy has unused capacity that shows a write.
func roomy(ts ...api.Term) []api.Term {
	return append(slices.Clone(ts), whole(77), large(false, 7, 7, 7))[:len(ts)]
}

func roomyLimbs(neg bool, mag ...uint32) api.Term {
	return large(neg, append(slices.Clone(mag), 77, 78)[:len(mag)]...)
}

func ragged() api.Term {
	return tuple(roomy(roomyLimbs(true, 1, 2, 3), cons(roomy(bin("ab"), tuple(roomy()...))...), roomyLimbs(false, 0, 1<<28), float(api.NaN), null())...)
}

// opened shows all that is reached, up to the capacities, in its own memory.
func opened(t api.Term) api.Term {
	t.Num.Mag = slices.Clone(t.Num.Mag[:cap(t.Num.Mag)])
	t.Args = slices.Clone(t.Args[:cap(t.Args)])
	for i := range t.Args {
		t.Args[i] = opened(t.Args[i])
	}
	return t
}

// spoil writes into all that is reached, up to the capacities.
func spoil(t api.Term) {
	for i := range t.Num.Mag[:cap(t.Num.Mag)] {
		t.Num.Mag[:cap(t.Num.Mag)][i] = 1234
	}
	args := t.Args[:cap(t.Args)]
	for i := range args {
		spoil(args[i])
		args[i] = api.Term{Kind: 99, Bytes: "spoilt"}
	}
}

func TestLayChangesAndSharesNothing(t *testing.T) {
	for _, wrap := range []func(api.Term) api.Term{
		func(x api.Term) api.Term { return x },
		func(x api.Term) api.Term { return list(x, x) },
		// Not valid ones stay as they are too.
		func(x api.Term) api.Term { return cons(roomy(x)...) },
		func(x api.Term) api.Term { return tuple(roomy(x, atom(-1))...) },
	} {
		x := wrap(ragged())
		first, err := wire.Lay(x)
		second, _ := wire.Lay(x)
		if !reflect.DeepEqual(opened(x), opened(wrap(ragged()))) {
			t.Error("R4: Lay changes its argument")
		}
		spoil(x)
		second = second[:cap(second)]
		for i := range second {
			second[i] = 0xee
		}
		if err == api.OK && !bytes.Equal(first, encoded(wrap(ragged()))) {
			t.Error("R4: what Lay returns shares memory")
		}
	}
}

func TestReadChangesAndSharesNothing(t *testing.T) {
	x := list(ragged(), ragged())
	whole := slices.Concat([]byte("ab"), encoded(x), []byte("cd"))
	for _, end := range []int{0, 1, 2, 10, len(whole) - 3, len(whole) - 2, len(whole)} {
		b := slices.Clone(whole)
		first, _, ok := wire.Read(b[:end], 2)
		second, _, _ := wire.Read(b[:end], 2)
		if !bytes.Equal(b, whole) {
			t.Error("R4: Read changes its argument")
		}
		spoil(second)
		if !bytes.Equal(b, whole) {
			t.Error("R4: what Read returns shares memory with its argument")
		}
		for i := range b {
			b[i] = 0xee
		}
		if ok && !bytes.Equal(encoded(first), encoded(x)) {
			t.Error("R4: what Read returns shares memory")
		}
	}
	// The parts of one term share none either.
	got, _, _ := wire.Read(whole, 2)
	spoil(got.Args[0])
	if !bytes.Equal(encoded(got.Args[1]), encoded(x.Args[1])) {
		t.Error("R4: the parts that Read returns share memory")
	}
}

// A failure in one goroutine is none in another.
func TestManyAtOnce(t *testing.T) {
	var group sync.WaitGroup
	x := ragged()
	b := encoded(x)
	for worker := range 8 {
		group.Go(func() {
			for k := range 300 {
				if (worker+k)%2 == 0 {
					checkNone(t, "bytes at the same time", b[:len(b)-1], 0)
				} else {
					checkSound(t, b, 0)
					checkLay(t, x, b)
				}
			}
		})
	}
	group.Wait()
}
