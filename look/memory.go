package look

import (
	"cmp"
	"iter"
	"slices"
	"sort"

	"beehive/api"
)

// lastAt is the last address at which a region with words may begin.
const lastAt = 1 << 50

// memory finds words by their addresses.
type memory interface {
	// from returns the words from the address to the end of its region, none
	// if the address lies in no region.
	from(address int) []uint64
}

// whole is a dump whose regions may lie anywhere, and over each other.
type whole api.Dump

func (d whole) from(address int) []uint64 {
	for r := range regions(api.Dump(d)) {
		if words := behind(r, address); len(words) > 0 {
			return words
		}
	}
	return nil
}

// apart are regions with words, in ascending order. No address lies in two of
// them, so that many of them are searched as fast as few.
type apart []api.Frag

// separate returns the regions of d, if they have their places and no address
// lies in two of them.
func separate(d api.Dump) (apart, bool) {
	var made apart
	for r := range regions(d) {
		if len(r.Words) == 0 {
			continue
		}
		if r.At < 0 || r.At > lastAt {
			return nil, false
		}
		made = append(made, r)
	}
	slices.SortFunc(made, func(a, b api.Frag) int { return cmp.Compare(a.At, b.At) })
	for i := 1; i < len(made); i++ {
		if made[i-1].At+len(made[i-1].Words) > made[i].At {
			return nil, false
		}
	}
	return made, true
}

func (m apart) from(address int) []uint64 {
	later := sort.Search(len(m), func(i int) bool { return m[i].At > address })
	if later == 0 {
		return nil
	}
	return behind(m[later-1], address)
}

// regions yields the regions of d. Where an address lies in several of them,
// the first one counts.
func regions(d api.Dump) iter.Seq[api.Frag] {
	return func(yield func(api.Frag) bool) {
		if !yield(d.Young) || !yield(d.Old) {
			return
		}
		for _, r := range d.Frags {
			if !yield(r) {
				return
			}
		}
	}
}

// behind returns the words of r from the address on, if it lies in r. It never
// adds the number of the words to At, for the sum may be beyond all ints.
func behind(r api.Frag, address int) []uint64 {
	if r.At < 0 || address < r.At || address-r.At >= len(r.Words) {
		return nil
	}
	return r.Words[address-r.At:]
}
