// Package set: sets of the values 0 to api.Prime-1, and the trees they are read as.
package set

import (
	"strconv"
	"strings"

	"segments/api"
	"segments/poly"
)

// Set has true at the values that are in it; == tells whether two are the same.
type Set [api.Prime]bool

// Where is the set of the values that in holds for.
func Where(in func(value int) bool) Set {
	var s Set
	for value := range s {
		s[value] = in(value)
	}
	return s
}

// Text is the values in the set, the lesser first.
func (s Set) Text() string {
	var texts []string
	for value, in := range s {
		if in {
			texts = append(texts, strconv.Itoa(value))
		}
	}
	return strings.Join(texts, " ")
}

// Has tells whether a number, any at all, is in the set, counted modulo Prime.
func (s Set) Has(number int) bool {
	return s[poly.Mod(number)]
}

// Within tells whether each value of s is in t.
func (s Set) Within(t Set) bool {
	return Of(Both{s, t}) == s
}
