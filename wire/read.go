package wire

import (
	"beehive/api"
	"beehive/term"
)

// failure is what the decoder panics with where no term can be read.
type failure string

const noTerm failure = "no encoding of a valid term"

// decoder reads b from at on.
type decoder struct {
	b  []byte
	at int
	// parts is how many more may be read, for each of them weighs at least 1.
	// It bounds the depth, whatever the bytes say.
	parts int
}

// whole reads a valid term.
func (d *decoder) whole() api.Term {
	t := d.term()
	if !term.May(t) {
		panic(noTerm)
	}
	return t
}

// term leaves the bounds of the fields to whole.
func (d *decoder) term() api.Term {
	if d.parts == 0 {
		panic(noTerm)
	}
	d.parts--
	t := api.Term{Kind: int(d.number(1))}
	switch t.Kind {
	case api.Int:
		t.N = int(d.number(8))
	case api.Big:
		t.Num = d.integer()
	case api.Float:
		t.Bits = d.number(8)
	case api.Atom, api.Pid:
		t.N = int(d.number(1))
	case api.Tuple:
		t.Args = d.terms(int(d.number(1)))
	case api.Nil:
	case api.Cons:
		t.Args = d.terms(2)
	case api.Binary:
		t.Bytes = string(d.take(int(d.number(2))))
	default:
		panic(noTerm)
	}
	return t
}

// terms makes room for each part as it comes: their number may be too great.
func (d *decoder) terms(many int) []api.Term {
	var made []api.Term
	for range many {
		made = append(made, d.term())
	}
	return made
}

func (d *decoder) integer() api.Num {
	neg := d.number(1)
	if neg > 1 {
		panic(noTerm)
	}
	x := api.Num{Neg: neg == 1, Mag: make([]uint32, d.number(1))}
	for i := range x.Mag {
		x.Mag[i] = uint32(d.number(4))
	}
	return x
}

// number reads a number whose most significant byte comes first.
func (d *decoder) number(bytes int) uint64 {
	n := uint64(0)
	for _, digit := range d.take(bytes) {
		n = n<<8 | uint64(digit)
	}
	return n
}

// take returns the next bytes. It asks the length itself, for a slice would
// reach into the unused capacity of b.
func (d *decoder) take(many int) []byte {
	if many > len(d.b)-d.at {
		panic(noTerm)
	}
	d.at += many
	return d.b[d.at-many : d.at]
}
