// Package segments: a calculator for polynomials with a parameter: see DOC.md.
package segments

import (
	"segments/api"
	"segments/names"
	"segments/reader"
)

// Session is what the names mean.
type Session struct {
	names names.Names
}

// Canon reads a polynomial and writes it again (P3).
func Canon(text string) (string, api.Errno, int) {
	p, errno, place := reader.Polynomial(text)
	if errno != api.OK {
		return "", errno, place
	}
	return p.Text(), api.OK, 0
}

// Value is what a polynomial comes to (P4).
func Value(text string, u int, x int) (int, api.Errno, int) {
	p, errno, place := reader.Polynomial(text)
	if errno != api.OK {
		return 0, errno, place
	}
	return p.Value(u, x), api.OK, 0
}

// New begins a session (P5).
func New() *Session {
	return &Session{names: names.Names{}}
}

// Do does a line's command (P5 to P10).
func (s *Session) Do(line string) (string, api.Errno, int) {
	if s == nil {
		return "", api.ErrNil, 0
	}
	c, errno, place := reader.Line(line, s.names)
	if errno != api.OK {
		return "", errno, place
	}
	return c.Do(s.names), api.OK, 0
}
