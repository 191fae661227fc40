// Package system: some polynomials together, in order.
package system

import (
	"strconv"
	"strings"

	"segments/api"
	"segments/poly"
)

// System is 1 to MaxPolys polynomials.
type System []poly.Poly

// Text is the polynomials' canonical texts.
func (s System) Text() string {
	var texts []string
	for _, p := range s {
		texts = append(texts, p.Text())
	}
	return strings.Join(texts, ", ")
}

// Divisor is the greatest common divisor of the system at this u.
func (s System) Divisor(u int) poly.Poly {
	var divisor poly.Poly
	for _, p := range s {
		divisor = poly.Divisor(divisor, p.At(u))
	}
	return divisor
}

// Roots is the text of the values of x at which the whole system is 0 at this u.
func (s System) Roots(u int) string {
	var roots []int
	for x := range api.Prime {
		if s.isZero(u, x) {
			roots = append(roots, x)
		}
	}
	return list(roots)
}

func (s System) isZero(u, x int) bool {
	for _, p := range s {
		if p.Value(u, x) != 0 {
			return false
		}
	}
	return true
}

// Split is the text of the segments: the values of u by the divisor's degree.
func (s System) Split() string {
	var byDegree [api.MaxX + 1][]int
	var all []int
	for u := range api.Prime {
		degree := s.Divisor(u).Degree()
		if degree == poly.None {
			all = append(all, u)
		} else {
			byDegree[degree] = append(byDegree[degree], u)
		}
	}
	var texts []string
	for degree, values := range byDegree {
		texts = appendSegment(texts, strconv.Itoa(degree), values)
	}
	return strings.Join(appendSegment(texts, "all", all), "; ")
}

// appendSegment leaves out a segment to which no value belongs.
func appendSegment(texts []string, degree string, values []int) []string {
	if len(values) == 0 {
		return texts
	}
	return append(texts, degree+": "+list(values))
}

func list(values []int) string {
	var texts []string
	for _, value := range values {
		texts = append(texts, strconv.Itoa(value))
	}
	return strings.Join(texts, " ")
}
