package poly

import "segments/api"

// None is the degree of the polynomial 0, which has none: less than all others.
const None = -1

// At is p at u = a, any number: a polynomial without u.
func (p Poly) At(a int) Poly {
	// Reduced first, so that no product can overflow.
	a = Mod(a)
	var at Poly
	for x, row := range p {
		for u := api.MaxU; u >= 0; u-- {
			at[x][0] = Mod(at[x][0]*a + row[u])
		}
	}
	return at
}

// Degree is the highest power of x in p, a polynomial without u, or None.
func (p Poly) Degree() int {
	for x := api.MaxX; x >= 0; x-- {
		if p[x][0] != 0 {
			return x
		}
	}
	return None
}

// Divisor is the greatest common divisor of two polynomials without u.
func Divisor(p, q Poly) Poly {
	for q != (Poly{}) {
		p, q = q, p.remainder(q)
	}
	return p.monic()
}

// remainder is what is left of p, divided by q, which is not 0; both without u.
func (p Poly) remainder(q Poly) Poly {
	top := q.Degree()
	for degree := p.Degree(); degree >= top; degree = p.Degree() {
		factor := p[degree][0] * inverse(q[top][0])
		for x := range top + 1 {
			p = p.Plus(Term{Number: -factor * q[x][0], X: degree - top + x})
		}
	}
	return p
}

// monic is p, a polynomial without u, times what makes its highest number 1.
func (p Poly) monic() Poly {
	degree := p.Degree()
	if degree == None {
		return p
	}
	factor := inverse(p[degree][0])
	for x := range degree + 1 {
		p[x][0] = Mod(p[x][0] * factor)
	}
	return p
}

// inverse is the number by which n, 1 to Prime-1, makes 1: as n to the power
// Prime-1 is 1, it is the power before.
func inverse(n int) int {
	power := 1
	for range api.Prime - 2 {
		power = Mod(power * n)
	}
	return power
}
