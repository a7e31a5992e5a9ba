package look

import (
	"iter"
	"slices"

	"beehive/api"
	"beehive/word"
)

// reached yields each object that is reached from the roots once, with the
// word that leads to it: its address and the tag. It keeps a list of what is
// to be visited, for the objects may be nested as deep as they are many.
func reached(m memory, roots []uint64) iter.Seq2[uint64, object] {
	return func(yield func(uint64, object) bool) {
		seen := map[uint64]struct{}{}
		todo := slices.Clone(roots)
		for len(todo) > 0 {
			w := todo[len(todo)-1]
			todo = todo[:len(todo)-1]
			if _, again := seen[w]; again {
				continue
			}
			o, ok := objectAt(m, w)
			if !ok {
				continue
			}
			seen[w] = struct{}{}
			if !yield(w, o) {
				return
			}
			todo = append(todo, o.leads()...)
		}
	}
}

// reachedHandles returns the addresses of the objects with a HeadRefc that are
// reached from the roots.
func reachedHandles(m memory, roots []uint64) []int {
	var made []int
	for w, o := range reached(m, roots) {
		if o.kind == api.HeadRefc {
			made = append(made, word.Load(w))
		}
	}
	return made
}
