package poly

import (
	"math"
	"testing"

	"segments/api"
)

func sum(terms ...Term) Poly {
	var p Poly
	for _, t := range terms {
		p = p.Plus(t)
	}
	return p
}

func TestMod(t *testing.T) {
	for _, c := range []struct{ n, want int }{
		{0, 0}, {6, 6}, {7, 0}, {8, 1}, {-1, 6}, {-7, 0}, {-8, 6}, {math.MaxInt64, 0}, {math.MinInt64, 6},
	} {
		if got := Mod(c.n); got != c.want {
			t.Errorf("Mod(%d) = %d, want %d", c.n, got, c.want)
		}
	}
}

func TestPlusAddsUpTheSamePowers(t *testing.T) {
	if got, want := sum(Term{3, 1, 2}, Term{5, 1, 2}), sum(Term{1, 1, 2}); got != want {
		t.Errorf("3ux2 + 5ux2 = %s, want %s", got.Text(), want.Text())
	}
	if got := sum(Term{1, 6, 4}, Term{-1, 6, 4}); got != (Poly{}) {
		t.Errorf("u6x4 - u6x4 = %s, want 0", got.Text())
	}
	if sum(Term{1, 1, 0}) == sum(Term{1, 0, 1}) {
		t.Error("u and x are told to be the same")
	}
}

func TestPlusLeavesWhatItWasAskedOf(t *testing.T) {
	before := sum(Term{2, 1, 1})
	kept := before
	before.Plus(Term{4, 0, 0})
	if before != kept {
		t.Errorf("2ux became %s by being added to", before.Text())
	}
}

func TestText(t *testing.T) {
	for _, c := range []struct {
		p    Poly
		want string
	}{
		{sum(), "0"},
		{sum(Term{1, 0, 0}), "1"},
		{sum(Term{6, 0, 0}), "6"},
		{sum(Term{1, 1, 0}), "u"},
		{sum(Term{1, 0, 1}), "x"},
		{sum(Term{1, 2, 3}), "u2x3"},
		{sum(Term{2, 1, 1}), "2ux"},
		{sum(Term{1, 0, 0}, Term{1, 6, 0}, Term{1, 0, 1}, Term{1, 1, 1}), "ux+x+u6+1"},
	} {
		if got := c.p.Text(); got != c.want {
			t.Errorf("Text = %q, want %q", got, c.want)
		}
	}
}

func TestValueOfEachTerm(t *testing.T) {
	for i := range api.MaxU + 1 {
		for j := range api.MaxX + 1 {
			p := sum(Term{3, i, j})
			for u := range api.Prime {
				for x := range api.Prime {
					want := 3
					for range i {
						want *= u
					}
					for range j {
						want *= x
					}
					if got := p.Value(u, x); got != want%api.Prime {
						t.Fatalf("%s at u = %d, x = %d: %d, want %d", p.Text(), u, x, got, want%api.Prime)
					}
				}
			}
		}
	}
}
