package order

import (
	"testing"

	"beehive/api"
)

// Terms of which none is less are the same, so that only where they stood
// can tell that they keep their order.
func TestSameTermsKeepTheirOrder(t *testing.T) {
	const many, unlike = 1000, 7
	ts := make([]api.Term, many)
	at := map[*api.Term]int{}
	for i := range ts {
		args := []api.Term{{Kind: api.Atom, N: i * i % unlike}, {Kind: api.Nil}}
		ts[i] = api.Term{Kind: api.Cons, Args: args}
		at[&ts[i]] = i
	}
	sorted := ascending(ts)
	if len(sorted) != many {
		t.Fatalf("P5.1: %d terms of %d", len(sorted), many)
	}
	for i := 1; i < many; i++ {
		which := Cmp(*sorted[i-1], *sorted[i])
		if which > 0 || which == 0 && at[sorted[i-1]] >= at[sorted[i]] {
			t.Fatalf("P5.1: the terms %d and %d have changed places", at[sorted[i-1]], at[sorted[i]])
		}
	}
}
