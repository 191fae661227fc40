// Package names: what the names of a session mean.
package names

// Meaning is what a name can mean; who needs one kind asks by a type assertion.
type Meaning interface {
	// Text is how the meaning is told.
	Text() string
}

// Names has the meaning of each name, A to Z, that means something.
type Names map[byte]Meaning
