package set

import (
	"math"
	"testing"

	"segments/poly"
)

// of: the set of these values.
func of(values ...int) Set {
	var s Set
	for _, value := range values {
		s[value] = true
	}
	return s
}

// all: every set that there is.
func all() []Set {
	var sets []Set
	for bits := range 1 << 7 {
		sets = append(sets, Where(func(value int) bool { return bits>>value&1 == 1 }))
	}
	return sets
}

func TestText(t *testing.T) {
	for _, c := range []struct {
		s    Set
		want string
	}{
		{of(), ""}, {of(0), "0"}, {of(6), "6"}, {of(5, 1, 3), "1 3 5"}, {of(0, 1, 2, 3, 4, 5, 6), "0 1 2 3 4 5 6"},
	} {
		if got := c.s.Text(); got != c.want {
			t.Errorf("text of %v = %q, want %q", c.s, got, c.want)
		}
	}
}

func TestHas(t *testing.T) {
	s := of(0, 1, 6)
	for number, want := range map[int]bool{0: true, 1: true, 2: false, 5: false, 6: true, 7: true, 9: false, 13: true, 99: true, -1: true, -2: false, math.MinInt: true, math.MaxInt: true, math.MaxInt - 5: false} {
		if got := s.Has(number); got != want {
			t.Errorf("has %d = %t, want %t", number, got, want)
		}
	}
}

func TestWithin(t *testing.T) {
	for _, a := range all() {
		for _, b := range all() {
			want := true
			for value := range 7 {
				if a[value] && !b[value] {
					want = false
				}
			}
			if got := a.Within(b); got != want {
				t.Fatalf("%v within %v = %t, want %t", a, b, got, want)
			}
		}
	}
}

func TestOf(t *testing.T) {
	for _, a := range all() {
		for _, b := range all() {
			known, not, both, without, either := Of(a), Of(Not{a}), Of(Both{a, b}), Of(Without{a, b}), Of(Either{a, b})
			for value := range 7 {
				inA, inB := a[value], b[value]
				if known[value] != inA || not[value] == inA || both[value] != (inA && inB) || without[value] != (inA && !inB) || either[value] != (inA || inB) {
					t.Fatalf("wrong at %d, of %v and %v", value, a, b)
				}
			}
		}
	}
}

func TestOfZeros(t *testing.T) {
	term := func(number, u int) poly.Term { return poly.Term{Number: number, U: u} }
	for _, c := range []struct {
		terms []poly.Term
		want  Set
	}{
		{nil, of(0, 1, 2, 3, 4, 5, 6)},
		{[]poly.Term{term(1, 0)}, of()},
		{[]poly.Term{term(2, 1)}, of(0)},
		{[]poly.Term{term(1, 2), term(-1, 1)}, of(0, 1)},
		{[]poly.Term{term(1, 3), term(-1, 0)}, of(1, 2, 4)},
		{[]poly.Term{term(1, 6), term(-1, 0)}, of(1, 2, 3, 4, 5, 6)},
		{[]poly.Term{term(1, 2), term(1, 0)}, of()},
	} {
		var p poly.Poly
		for _, t := range c.terms {
			p = p.Plus(t)
		}
		if got := Of(Zeros{p}); got != c.want {
			t.Errorf("zeros of %s = %v, want %v", p.Text(), got, c.want)
		}
	}
}

func TestOfGoesDeep(t *testing.T) {
	a, b, c := of(0, 1, 2), of(1, 2, 3), of(2, 4)
	for _, k := range []struct {
		tree Node
		want Set
	}{
		{Not{Not{a}}, a},
		{Without{Without{a, b}, c}, of(0)},
		{Without{a, Without{b, c}}, of(0, 2)},
		{Either{a, Both{b, c}}, of(0, 1, 2)},
		{Both{Either{a, b}, c}, of(2)},
		{Both{Not{a}, Either{Not{b}, c}}, of(4, 5, 6)},
	} {
		if got := Of(k.tree); got != k.want {
			t.Errorf("%v comes to %v, want %v", k.tree, got, k.want)
		}
	}
}

func TestOfNothing(t *testing.T) {
	if got := Of(nil); got != of() {
		t.Errorf("no tree comes to %v, want no values", got)
	}
}
