package term

import "beehive/api"

// place is where Args stand in memory: those that stand at one place are one.
type place struct {
	first *api.Term
	many  int
}

// classes holds which Args have already been met beside which others: a place
// leads to another one of its class, and the last one stands for the class.
// By it, terms beyond MaxWeight whose parts are shared are compared in a time
// that hangs on the parts in memory, not on how often each is reached.
type classes map[place]place

// same compares a and b. Below a bound of weight, met may be nil: then every
// part is compared as often as it is reached.
func (met classes) same(a api.Term, b api.Term) bool {
	a, b = mentioned(a), mentioned(b)
	if !alike(a, b) {
		return false
	}
	if len(a.Args) == 0 || met != nil && !met.join(placeOf(a.Args), placeOf(b.Args)) {
		return true
	}
	for i := range a.Args {
		if !met.same(a.Args[i], b.Args[i]) {
			return false
		}
	}
	return true
}

// join makes one class of two places. It returns false if they were in one:
// then their Args have been compared, or are being compared, or follow from
// others that have; and one difference anywhere makes the whole differ.
func (met classes) join(a place, b place) bool {
	a, b = met.last(a), met.last(b)
	if a == b {
		return false
	}
	met[a] = b
	return true
}

// last returns the place that stands for the class of a, and halves the way.
func (met classes) last(a place) place {
	for {
		next, ok := met[a]
		if !ok {
			return a
		}
		further, ok := met[next]
		if !ok {
			return next
		}
		met[a] = further
		a = further
	}
}

func placeOf(args []api.Term) place { return place{&args[0], len(args)} }
