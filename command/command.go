// Package command: what lines ask for, once they are read.
package command

import (
	"segments/names"
	"segments/set"
	"segments/system"
)

// Command is a line with which nothing is wrong.
type Command interface {
	// Do answers the command; it may change what names mean.
	Do(n names.Names) string
}

// Give makes a name mean something, whatever it meant before.
type Give struct {
	Name    byte
	Meaning names.Meaning
}

func (c Give) Do(n names.Names) string {
	n[c.Name] = c.Meaning
	return ""
}

// Tell answers the text of what a name means.
type Tell struct {
	Meaning names.Meaning
}

func (c Tell) Do(names.Names) string {
	return c.Meaning.Text()
}

// Divisor answers the greatest common divisor of a system.
type Divisor struct {
	System system.System
	U      int
}

func (c Divisor) Do(names.Names) string {
	return c.System.Divisor(c.U).Text()
}

// Roots answers where all of a system is 0.
type Roots struct {
	System system.System
	U      int
}

func (c Roots) Do(names.Names) string {
	return c.System.Roots(c.U)
}

// Split answers a system's segments.
type Split struct {
	System system.System
}

func (c Split) Do(names.Names) string {
	return c.System.Split()
}

// Collect makes a name mean the set that a tree comes to, whatever it meant before.
type Collect struct {
	Name byte
	Tree set.Node
}

func (c Collect) Do(n names.Names) string {
	return Give{Name: c.Name, Meaning: set.Of(c.Tree)}.Do(n)
}

// Has answers whether a number is in a set.
type Has struct {
	Set    set.Set
	Number int
}

func (c Has) Do(names.Names) string {
	return yesOrNo(c.Set.Has(c.Number))
}

// Within answers whether all of the first set is in the second.
type Within struct {
	First, Second set.Set
}

func (c Within) Do(names.Names) string {
	return yesOrNo(c.First.Within(c.Second))
}

func yesOrNo(yes bool) string {
	if yes {
		return "yes"
	}
	return "no"
}
