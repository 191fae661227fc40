// Package poly: polynomials in x with the parameter u, counted modulo api.Prime.
package poly

import (
	"strconv"
	"strings"

	"segments/api"
)

// Poly has at [x][u] the number, 0 to Prime-1, of the term with these powers
// of x and u. As every number is kept reduced, == tells whether two are the same.
type Poly [api.MaxX + 1][api.MaxU + 1]int

// Term is a number, any at all, with its powers of u and x.
type Term struct {
	Number, U, X int
}

// Mod counts n modulo Prime: 0 to Prime-1, for a negative n too.
func Mod(n int) int {
	return (n%api.Prime + api.Prime) % api.Prime
}

// Plus is p with the term t added.
func (p Poly) Plus(t Term) Poly {
	p[t.X][t.U] = Mod(p[t.X][t.U] + Mod(t.Number))
	return p
}

// Value is what p comes to with any numbers in the place of u and x.
func (p Poly) Value(u, x int) int {
	at, x := p.At(u), Mod(x)
	sum := 0
	for power := api.MaxX; power >= 0; power-- {
		sum = Mod(sum*x + at[power][0])
	}
	return sum
}

// Text is the canonical text of p.
func (p Poly) Text() string {
	if p == (Poly{}) {
		return "0"
	}
	var terms []string
	for x := api.MaxX; x >= 0; x-- {
		for u := api.MaxU; u >= 0; u-- {
			if p[x][u] != 0 {
				terms = append(terms, termText(Term{Number: p[x][u], U: u, X: x}))
			}
		}
	}
	return strings.Join(terms, "+")
}

func termText(t Term) string {
	powers := powerText("u", t.U) + powerText("x", t.X)
	if t.Number == 1 && powers != "" {
		return powers
	}
	return strconv.Itoa(t.Number) + powers
}

func powerText(letter string, power int) string {
	switch power {
	case 0:
		return ""
	case 1:
		return letter
	}
	return letter + strconv.Itoa(power)
}
