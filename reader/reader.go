// Package reader: reads texts, and tells what is wrong with them, and where.
package reader

import (
	"errors"
	"strconv"

	"segments/api"
	"segments/poly"
)

// fault is what the reading gives up with: what is wrong, and at which byte.
type fault struct {
	errno api.Errno
	place int
}

func (f fault) Error() string {
	return "error " + strconv.Itoa(int(f.errno)) + " at byte " + strconv.Itoa(f.place)
}

// reader goes through a text from the left, one token ahead of what is taken.
type reader struct {
	text string
	next token
}

// Polynomial reads text as one polynomial.
func Polynomial(text string) (p poly.Poly, errno api.Errno, place int) {
	defer func() {
		thrown := recover()
		if thrown == nil {
			return
		}
		if err, ok := thrown.(error); ok {
			var f fault
			if errors.As(err, &f) {
				p, errno, place = poly.Poly{}, f.errno, f.place
				return
			}
		}
		// Not a fault of the text: it must not pass for one.
		panic(thrown)
	}()
	r := begin(text)
	p = r.polynomial()
	r.finish()
	return p, api.OK, 0
}

func begin(text string) *reader {
	if len(text) > api.MaxLine {
		panic(fault{errno: api.ErrLong, place: 0})
	}
	return &reader{text: text, next: tokenAt(text, 0)}
}

// take goes on to the token behind the next one.
func (r *reader) take() token {
	taken := r.next
	r.next = tokenAt(r.text, taken.behind)
	return taken
}

// fail gives up at the next token.
func (r *reader) fail(errno api.Errno) {
	panic(fault{errno: errno, place: r.next.place})
}

func (r *reader) finish() {
	if r.next.kind != end {
		r.fail(api.ErrForm)
	}
}

func (r *reader) polynomial() poly.Poly {
	var sum poly.Poly
	negative := r.next.kind == minus
	if negative {
		r.take()
	}
	for {
		t := r.term()
		if negative {
			t.Number = -t.Number
		}
		sum = sum.Plus(t)
		if r.next.kind != plus && r.next.kind != minus {
			return sum
		}
		negative = r.take().kind == minus
	}
}

func (r *reader) term() poly.Term {
	t := poly.Term{Number: 1}
	switch r.next.kind {
	case number:
		t.Number = r.take().value
	case powerU, powerX:
		// Its powers are read below: a term without a number counts once.
	default:
		r.fail(api.ErrForm)
	}
	for r.next.kind == powerU || r.next.kind == powerX {
		t = r.power(t)
	}
	return t
}

// power is t times the power that stands next.
func (r *reader) power(t poly.Term) poly.Term {
	if r.next.kind == powerU {
		t.U += r.next.value
	} else {
		t.X += r.next.value
	}
	if t.U > api.MaxU || t.X > api.MaxX {
		r.fail(api.ErrDegree)
	}
	r.take()
	return t
}
