package collect

import (
	"slices"

	"beehive/api"
	"beehive/memory"
	"beehive/word"
)

// collection copies objects out of the regions that are left.
type collection struct {
	// from has the words of these regions as they were. Objects may lie over
	// each other, so that what one of them leaves behind must not be seen in
	// another one.
	from memory.Apart
	// left is a copy of from. There, the first word of each object that has
	// been copied is replaced by a forwarding word, which says where it went.
	left memory.Apart
	// handles are the addresses of the objects with a HeadRefc that stay.
	handles []int
}

// space is a region that objects are copied to. What its words lead to has been
// copied too for those ahead of scanned.
type space struct {
	api.Frag
	scanned int
}

func leave(from memory.Apart) *collection {
	left := slices.Clone(from)
	for i := range left {
		left[i].Words = slices.Clone(left[i].Words)
	}
	return &collection{from: from, left: left}
}

// gather returns a dump of what the roots lead to, in a young region at the
// address at.
func (c *collection) gather(roots []uint64, at int) api.Dump {
	young := space{Frag: api.Frag{At: at}}
	made := api.Dump{Roots: make([]uint64, len(roots))}
	for i, w := range roots {
		made.Roots[i] = c.follow(w, &young)
	}
	c.settle(&young)
	slices.Sort(c.handles)
	made.Handles = slices.Compact(c.handles)
	made.Young, made.Size, made.Mark = young.Frag, len(young.Words), len(young.Words)
	return made
}

// settle looks through the copies in order, and copies what they lead to behind
// them, until nothing is added.
func (c *collection) settle(to *space) {
	for to.scanned < len(to.Words) {
		lead, next := memory.Next(to.Words, to.scanned)
		// Following adds words, so that they may stand elsewhere afterwards.
		w := c.follow(to.Words[lead], to)
		to.Words[lead] = w
		to.scanned = next
	}
}

// follow returns the word that leads to where the object of w is now. If it is
// still where it was, it is copied. A word that leads to nothing that is left
// stays as it is.
func (c *collection) follow(w uint64, to *space) uint64 {
	if !memory.Points(w) {
		return w
	}
	left := c.left.From(word.Load(w))
	if len(left) == 0 {
		return w
	}
	if word.Tag(left[0]) != api.TagForward {
		left[0], _ = word.Make(api.TagForward, c.copy(w, to))
	}
	moved, _ := word.Make(word.Tag(w), word.Load(left[0]))
	return moved
}

// copy puts the object of w behind the words of to, and returns where that is.
func (c *collection) copy(w uint64, to *space) int {
	o, _ := memory.Outline(c.from, w)
	address := to.At + len(to.Words)
	to.Words = append(to.Words, c.from.From(word.Load(w))[:o.Size()]...)
	if o.Kind == api.HeadRefc {
		c.handles = append(c.handles, address)
	}
	return address
}
