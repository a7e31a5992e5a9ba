// Package memory: the regions and the objects of dumps, for the layers that
// look at them and move them. Nothing of what it answers is a copy.
package memory

import (
	"cmp"
	"iter"
	"slices"
	"sort"

	"beehive/api"
)

// LastAt is the last address at which a region with words may begin.
const LastAt = 1 << 50

// Memory finds words by their addresses.
type Memory interface {
	// From returns the words from the address to the end of its region, none
	// if the address lies in no region.
	From(address int) []uint64
}

// Whole is a dump whose regions may lie anywhere, and over each other.
type Whole api.Dump

// From returns the words from the address on, of the first region that counts.
func (d Whole) From(address int) []uint64 {
	for r := range regions(api.Dump(d)) {
		if words := Behind(r, address); len(words) > 0 {
			return words
		}
	}
	return nil
}

// Apart are regions with words, in ascending order. No address lies in two of
// them, so that many of them are searched as fast as few.
type Apart []api.Frag

// Separate returns the regions of d, if they have their places and no address
// lies in two of them.
func Separate(d api.Dump) (Apart, bool) {
	var made Apart
	for r := range regions(d) {
		if len(r.Words) == 0 {
			continue
		}
		if r.At < 0 || r.At > LastAt {
			return nil, false
		}
		made = append(made, r)
	}
	slices.SortFunc(made, func(a, b api.Frag) int { return cmp.Compare(a.At, b.At) })
	for i := 1; i < len(made); i++ {
		if made[i-1].At+len(made[i-1].Words) > made[i].At {
			return nil, false
		}
	}
	return made, true
}

// From returns the words from the address on, of its region.
func (m Apart) From(address int) []uint64 {
	later := sort.Search(len(m), func(i int) bool { return m[i].At > address })
	if later == 0 {
		return nil
	}
	return Behind(m[later-1], address)
}

// regions yields the regions of d. Where an address lies in several of them,
// the first one counts.
func regions(d api.Dump) iter.Seq[api.Frag] {
	return func(yield func(api.Frag) bool) {
		if !yield(d.Young) || !yield(d.Old) {
			return
		}
		for _, r := range d.Frags {
			if !yield(r) {
				return
			}
		}
	}
}

// Behind returns the words of r from the address on, if it lies in r. It never
// adds the number of the words to At, for the sum may be beyond all ints.
func Behind(r api.Frag, address int) []uint64 {
	if r.At < 0 || address < r.At || address-r.At >= len(r.Words) {
		return nil
	}
	return r.Words[address-r.At:]
}
