// Package system: some polynomials together, in order.
package system

import (
	"strconv"
	"strings"

	"segments/api"
	"segments/poly"
	"segments/set"
)

// System is 1 to MaxPolys polynomials.
type System []poly.Poly

// Text is the polynomials' canonical texts.
func (s System) Text() string {
	var texts []string
	for _, p := range s {
		texts = append(texts, p.Text())
	}
	return strings.Join(texts, ", ")
}

// Divisor is the greatest common divisor of the system at this u.
func (s System) Divisor(u int) poly.Poly {
	var divisor poly.Poly
	for _, p := range s {
		divisor = poly.Divisor(divisor, p.At(u))
	}
	return divisor
}

// Roots is the text of the values of x at which the whole system is 0 at this u.
func (s System) Roots(u int) string {
	return set.Where(func(x int) bool { return s.isZero(u, x) }).Text()
}

func (s System) isZero(u, x int) bool {
	for _, p := range s {
		if p.Value(u, x) != 0 {
			return false
		}
	}
	return true
}

// Split is the text of the segments: the values of u by the divisor's degree.
func (s System) Split() string {
	var byDegree [api.MaxX + 1]set.Set
	var all set.Set
	for u := range api.Prime {
		degree := s.Divisor(u).Degree()
		if degree == poly.None {
			all[u] = true
		} else {
			byDegree[degree][u] = true
		}
	}
	var texts []string
	for degree, values := range byDegree {
		texts = appendSegment(texts, strconv.Itoa(degree), values)
	}
	return strings.Join(appendSegment(texts, "all", all), "; ")
}

// appendSegment leaves out a segment to which no value belongs.
func appendSegment(texts []string, degree string, values set.Set) []string {
	if values == (set.Set{}) {
		return texts
	}
	return append(texts, degree+": "+values.Text())
}
