package system

import (
	"testing"

	"segments/poly"
)

func sum(terms ...poly.Term) poly.Poly {
	var p poly.Poly
	for _, t := range terms {
		p = p.Plus(t)
	}
	return p
}

// x2-u, ux-1
func example() System {
	return System{
		sum(poly.Term{Number: 1, X: 2}, poly.Term{Number: -1, U: 1}),
		sum(poly.Term{Number: 1, U: 1, X: 1}, poly.Term{Number: -1}),
	}
}

func TestText(t *testing.T) {
	if got, want := example().Text(), "x2+6u, ux+6"; got != want {
		t.Errorf("Text = %q, want %q", got, want)
	}
	if got := (System{poly.Poly{}}).Text(); got != "0" {
		t.Errorf("Text = %q, want 0", got)
	}
}

func TestDivisor(t *testing.T) {
	for u, want := range []string{"1", "x+6", "x+3", "1", "x+5", "1", "1", "1", "x+6"} {
		if got := example().Divisor(u).Text(); got != want {
			t.Errorf("divisor at %d = %q, want %q", u, got, want)
		}
	}
}

func TestDivisorDoesNotHangOnTheOrder(t *testing.T) {
	s := append(example(), poly.Poly{}, sum(poly.Term{Number: 2, X: 1}, poly.Term{Number: 5}))
	for u := range 7 {
		want := s.Divisor(u)
		for i := range s {
			turned := append(append(System{}, s[i:]...), s[:i]...)
			if got := turned.Divisor(u); got != want {
				t.Errorf("divisor of %s at %d = %s, want %s", turned.Text(), u, got.Text(), want.Text())
			}
		}
	}
}

func TestRoots(t *testing.T) {
	for u, want := range []string{"", "1", "4", "", "2", "", "", "", "1"} {
		if got := example().Roots(u); got != want {
			t.Errorf("roots at %d = %q, want %q", u, got, want)
		}
	}
	if got, want := (System{poly.Poly{}}).Roots(3), "0 1 2 3 4 5 6"; got != want {
		t.Errorf("roots of 0 = %q, want %q", got, want)
	}
}

func TestSplit(t *testing.T) {
	ux := poly.Term{Number: 1, U: 1, X: 1}
	for _, c := range []struct {
		s    System
		want string
	}{
		{example(), "0: 0 3 5 6; 1: 1 2 4"},
		{System{sum(ux)}, "1: 1 2 3 4 5 6; all: 0"},
		{System{poly.Poly{}}, "all: 0 1 2 3 4 5 6"},
		{System{sum(poly.Term{Number: 3})}, "0: 0 1 2 3 4 5 6"},
		{System{sum(poly.Term{Number: 1, U: 1, X: 4}, poly.Term{Number: 1, X: 2})}, "2: 0; 4: 1 2 3 4 5 6"},
	} {
		if got := c.s.Split(); got != c.want {
			t.Errorf("split of %s = %q, want %q", c.s.Text(), got, c.want)
		}
	}
}
