package set

import "segments/poly"

// Node is a set as it was read: one of the kinds below, or a Set that is known.
type Node interface {
	// node does nothing: it keeps all other types from being nodes.
	node()
}

// Zeros is the values of u at which a polynomial without x is 0.
type Zeros struct {
	Poly poly.Poly
}

// Not is the values that are not in a set.
type Not struct {
	Of Node
}

// Both is the values that are in both sets.
type Both struct {
	First, Second Node
}

// Without is the values that are in the first set and not in the second.
type Without struct {
	First, Second Node
}

// Either is the values that are in one of the sets.
type Either struct {
	First, Second Node
}

func (Set) node()     {}
func (Zeros) node()   {}
func (Not) node()     {}
func (Both) node()    {}
func (Without) node() {}
func (Either) node()  {}

// Of is the set that a tree comes to.
func Of(n Node) Set {
	switch n := n.(type) {
	case Set:
		return n
	case Zeros:
		return Where(func(u int) bool { return n.Poly.At(u) == poly.Poly{} })
	case Not:
		of := Of(n.Of)
		return Where(func(value int) bool { return !of[value] })
	case Both:
		first, second := Of(n.First), Of(n.Second)
		return Where(func(value int) bool { return first[value] && second[value] })
	case Without:
		first, second := Of(n.First), Of(n.Second)
		return Where(func(value int) bool { return first[value] && !second[value] })
	case Either:
		first, second := Of(n.First), Of(n.Second)
		return Where(func(value int) bool { return first[value] || second[value] })
	}
	// No tree at all has no values.
	return Set{}
}
