package fresh_test

import (
	"reflect"
	"testing"

	"beehive/api"
	"beehive/fresh"
)

func leaf() api.Term {
	return api.Term{Kind: api.Big, N: 3, Num: api.Num{Neg: true, Mag: []uint32{1, 2}}, Bits: 4, Bytes: "five"}
}

func doubled(levels int) api.Term {
	made := leaf()
	for range levels {
		made = api.Term{Kind: api.Cons, Args: []api.Term{made, made}}
	}
	return made
}

// spoil writes into all that is reached, up to the capacities.
func spoil(ts []api.Term) {
	whole := ts[:cap(ts)]
	for i := range whole {
		for k := range whole[i].Num.Mag {
			whole[i].Num.Mag[k] = 99
		}
		spoil(whole[i].Args)
		whole[i] = api.Term{}
	}
}

func TestTermsAreEqualAndApart(t *testing.T) {
	for _, build := range []func() []api.Term{
		func() []api.Term { return []api.Term{leaf()} },
		func() []api.Term { return []api.Term{doubled(3), leaf(), {Kind: 77, Args: []api.Term{{}, leaf()}}} },
		func() []api.Term { return make([]api.Term, 5, 9) },
	} {
		ts := build()
		got, other := fresh.Terms(ts), fresh.Terms(ts)
		spoil(ts)
		spoil(other)
		if !reflect.DeepEqual(got, build()) {
			t.Errorf("a copy of %v is %v", build(), got)
		}
	}
	if len(fresh.Terms(nil)) != 0 || len(fresh.Terms([]api.Term{})) != 0 {
		t.Error("a copy of no terms")
	}
}

// Parts that one argument shares are apart in its copy, so long as that is no waste.
func TestPartsAreApart(t *testing.T) {
	one := doubled(4)
	got := fresh.Terms([]api.Term{one, one})
	spoil(got[0].Args[:1:1])
	spoil(got[1].Args[1:])
	if !reflect.DeepEqual(got[0].Args[1], doubled(3)) || !reflect.DeepEqual(got[1].Args[0], doubled(3)) {
		t.Error("two parts of a copy share memory")
	}
}

func TestPartsThatAreTooManyStayShared(t *testing.T) {
	const levels = 1000
	one := doubled(levels)
	made := fresh.Terms([]api.Term{one})[0]
	for x, y, level := one, made, levels; level > 0; level-- {
		if y.Kind != api.Cons || len(y.Args) != 2 {
			t.Fatalf("level %d of a copy is %d Args of kind %d", level, len(y.Args), y.Kind)
		}
		if &x.Args[0] == &y.Args[0] {
			t.Fatalf("level %d of a copy shares memory with its argument", level)
		}
		x, y = x.Args[1], y.Args[1]
	}
}

// Slices that begin at one place, but are not equally long, aren't one.
func TestPiecesOfOneSlice(t *testing.T) {
	args := []api.Term{leaf(), leaf(), leaf()}
	ts := []api.Term{doubled(1000), {Kind: api.Tuple, Args: args[:1]}, {Kind: api.Tuple, Args: args[:3]}, {Kind: api.Tuple, Args: args[:2]}}
	got := fresh.Terms(ts)
	if !reflect.DeepEqual(got[1:], ts[1:]) {
		t.Errorf("a copy of pieces is %v", got[1:])
	}
}

// Two doubled(4) have 62 parts: they are apart below the bound, and one from it on.
func TestApartAsFarAsTheBoundSays(t *testing.T) {
	one := doubled(4)
	ts := []api.Term{one, one}
	for _, x := range []struct {
		most  int
		apart bool
	}{{-1, false}, {0, false}, {1, false}, {62, false}, {63, true}, {1 << 20, true}} {
		got := fresh.Apart(ts, x.most)
		if !reflect.DeepEqual(got, ts) {
			t.Errorf("a copy within %d is %v", x.most, got)
		}
		if apart := &got[0].Args[0] != &got[1].Args[0]; apart != x.apart {
			t.Errorf("within %d, the parts of a copy are apart: %v", x.most, apart)
		}
		if &got[0].Args[0] == &one.Args[0] {
			t.Errorf("within %d, a copy shares memory with its argument", x.most)
		}
	}
}
