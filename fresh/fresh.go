// Package fresh copies terms, so that a result shares no memory with what it
// was made of.
package fresh

import "beehive/api"

// mostApart is how many parts are copied one by one. Beyond it, what a term
// shares stays shared in the copy: taken apart, it might fill any memory.
const mostApart = 1 << 18

// Terms returns a copy of ts, valid or not, with all that is in it.
func Terms(ts []api.Term) []api.Term { return Apart(ts, mostApart) }

// Apart is Terms, but for a caller that knows how many parts are no waste:
// with fewer than most of them, no two parts of the copy share memory.
func Apart(ts []api.Term, most int) []api.Term {
	var c copier
	if left(ts, most) <= 0 {
		c.made = map[place][]api.Term{}
	}
	return c.terms(ts)
}

// left returns what the parts of ts leave of most, at least 0.
func left(ts []api.Term, most int) int {
	for i := 0; i < len(ts) && most > 0; i++ {
		most = left(ts[i].Args, most-1)
	}
	return most
}

// place is where terms stand in memory.
type place struct {
	first *api.Term
	many  int
}

// copier holds the copy of each place, if it is to be made only once.
type copier struct {
	made map[place][]api.Term
}

func (c copier) terms(ts []api.Term) []api.Term {
	if len(ts) == 0 {
		return nil
	}
	at := place{&ts[0], len(ts)}
	if known, ok := c.made[at]; ok {
		return known
	}
	made := make([]api.Term, len(ts))
	if c.made != nil {
		c.made[at] = made
	}
	for i := range ts {
		made[i] = ts[i]
		made[i].Num.Mag = append([]uint32(nil), ts[i].Num.Mag...)
		made[i].Args = c.terms(ts[i].Args)
	}
	return made
}
