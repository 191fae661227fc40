package poly

import (
	"math"
	"testing"

	"segments/api"
)

// numbered: the n-th of all polynomials without u; its digits, to the base Prime, are its numbers.
func numbered(n int) Poly {
	var p Poly
	for x := range p {
		p[x][0] = n % api.Prime
		n /= api.Prime
	}
	return p
}

// product: p times q, and whether there is room for it; both without u.
func product(p, q Poly) (Poly, bool) {
	var sum Poly
	for i := range p {
		for j := range q {
			number := p[i][0] * q[j][0]
			if number == 0 {
				continue
			}
			if i+j > api.MaxX {
				return Poly{}, false
			}
			sum = sum.Plus(Term{Number: number, X: i + j})
		}
	}
	return sum, true
}

func TestInverse(t *testing.T) {
	for n := 1; n < api.Prime; n++ {
		if Mod(n*inverse(n)) != 1 {
			t.Errorf("inverse(%d) = %d", n, inverse(n))
		}
	}
}

func TestDegree(t *testing.T) {
	for _, c := range []struct {
		p    Poly
		want int
	}{
		{sum(), None}, {sum(Term{3, 0, 0}), 0}, {sum(Term{3, 0, 0}, Term{6, 0, 1}), 1}, {sum(Term{1, 0, 4}), 4},
	} {
		if got := c.p.Degree(); got != c.want {
			t.Errorf("degree of %s = %d, want %d", c.p.Text(), got, c.want)
		}
	}
}

func TestAt(t *testing.T) {
	p := sum(Term{1, 2, 3}, Term{2, 1, 3}, Term{1, 6, 0}, Term{5, 0, 1})
	for _, c := range []struct {
		u    int
		want string
	}{
		{0, "5x"}, {1, "3x3+5x+1"}, {2, "x3+5x+1"}, {5, "5x+1"}, {-2, "5x+1"}, {8, "3x3+5x+1"}, {math.MinInt64, "6x3+5x+1"}, {math.MaxInt64, "5x"},
	} {
		if got := p.At(c.u).Text(); got != c.want {
			t.Errorf("%s at u = %d: %s, want %s", p.Text(), c.u, got, c.want)
		}
	}
}

func TestDivisorOfTwo(t *testing.T) {
	x2Minus1, xPlus1 := sum(Term{1, 0, 2}, Term{-1, 0, 0}), sum(Term{1, 0, 1}, Term{1, 0, 0})
	x4 := sum(Term{3, 0, 4})
	for _, c := range []struct{ p, q, want Poly }{
		{Poly{}, Poly{}, Poly{}},
		{x4, Poly{}, sum(Term{1, 0, 4})},
		{Poly{}, x4, sum(Term{1, 0, 4})},
		{x2Minus1, xPlus1, xPlus1},
		{xPlus1, x2Minus1, xPlus1},
		{x2Minus1, x4, sum(Term{1, 0, 0})},
		{sum(Term{5, 0, 0}), sum(Term{3, 0, 0}), sum(Term{1, 0, 0})},
		{sum(Term{5, 0, 0}), Poly{}, sum(Term{1, 0, 0})},
		{x4, sum(Term{2, 0, 2}), sum(Term{1, 0, 2})},
	} {
		if got := Divisor(c.p, c.q); got != c.want {
			t.Errorf("divisor of %s and %s = %s, want %s", c.p.Text(), c.q.Text(), got.Text(), c.want.Text())
		}
	}
}

// By the word's meaning: a common factor of two products is in their divisor,
// and nothing else is, if the other factors have none in common.
func TestDivisorOfProducts(t *testing.T) {
	one, square := api.Prime, api.Prime*api.Prime
	for common := 1; common < square*api.Prime; common++ {
		d := numbered(common)
		for a := range one {
			for b := range one {
				// x+a and x+b have a common factor only if they are the same.
				p, fits := product(d, numbered(one+a))
				q, alsoFits := product(d, numbered(one+b))
				if !fits || !alsoFits {
					t.Fatal("no room for a product")
				}
				want := d.monic()
				if a == b {
					want = p.monic()
				}
				if got := Divisor(p, q); got != want {
					t.Fatalf("divisor of %s and %s = %s, want %s", p.Text(), q.Text(), got.Text(), want.Text())
				}
			}
		}
	}
}
