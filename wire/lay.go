package wire

import "beehive/api"

// laid appends the encoding of t, which is valid: all its numbers fit.
func laid(b []byte, t api.Term) []byte {
	b = append(b, byte(t.Kind))
	switch t.Kind {
	case api.Int:
		b = laidNumber(b, uint64(t.N), 8)
	case api.Big:
		b = laidInteger(b, t.Num)
	case api.Float:
		b = laidNumber(b, t.Bits, 8)
	case api.Atom, api.Pid:
		b = append(b, byte(t.N))
	case api.Tuple:
		b = append(b, byte(len(t.Args)))
	case api.Binary:
		b = laidNumber(b, uint64(len(t.Bytes)), 2)
		b = append(b, t.Bytes...)
	}
	for _, part := range t.Args {
		b = laid(b, part)
	}
	return b
}

func laidInteger(b []byte, x api.Num) []byte {
	neg := byte(0)
	if x.Neg {
		neg = 1
	}
	b = append(b, neg, byte(len(x.Mag)))
	for _, limb := range x.Mag {
		b = laidNumber(b, uint64(limb), 4)
	}
	return b
}

// laidNumber appends the lowest bytes of n, the most significant one first.
func laidNumber(b []byte, n uint64, bytes int) []byte {
	for i := bytes - 1; i >= 0; i-- {
		b = append(b, byte(n>>(8*i)))
	}
	return b
}
