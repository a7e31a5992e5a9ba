package memory

import (
	"iter"
	"slices"
)

// Reached yields each object that is reached from the roots once, with the
// word that leads to it: its address and the tag. It keeps a list of what is
// to be visited, for the objects may be nested as deep as they are many.
func Reached(m Memory, roots []uint64) iter.Seq2[uint64, Object] {
	return func(yield func(uint64, Object) bool) {
		seen := map[uint64]struct{}{}
		todo := slices.Clone(roots)
		for len(todo) > 0 {
			w := todo[len(todo)-1]
			todo = todo[:len(todo)-1]
			if _, again := seen[w]; again {
				continue
			}
			o, ok := ObjectAt(m, w)
			if !ok {
				continue
			}
			seen[w] = struct{}{}
			if !yield(w, o) {
				return
			}
			todo = append(todo, o.leads()...)
		}
	}
}
