// Package reader: reads texts, and tells what is wrong with them, and where.
package reader

import (
	"errors"
	"strconv"

	"segments/api"
	"segments/command"
	"segments/names"
	"segments/poly"
)

// fault is what the reading gives up with: what is wrong, and at which byte.
type fault struct {
	errno api.Errno
	place int
}

func (f fault) Error() string {
	return "error " + strconv.Itoa(int(f.errno)) + " at byte " + strconv.Itoa(f.place)
}

// reader goes through a text from the left, one token ahead of what is taken.
type reader struct {
	text  string
	names names.Names // only asked, so that a wrong line changes nothing
	next  token
	deep  int  // how many ~ and ( are open
	onlyU bool // inside of [ and ], where x may not stand
}

// Polynomial reads text as one polynomial.
func Polynomial(text string) (poly.Poly, api.Errno, int) {
	return read(&reader{text: text}, (*reader).polynomial)
}

// Line reads text as a line, in which names mean what n has.
func Line(text string, n names.Names) (command.Command, api.Errno, int) {
	return read(&reader{text: text, names: n}, (*reader).line)
}

// read has the whole text read by one of r's methods.
func read[T any](r *reader, whole func(*reader) T) (result T, errno api.Errno, place int) {
	defer func() {
		thrown := recover()
		if thrown == nil {
			return
		}
		if err, ok := thrown.(error); ok {
			var f fault
			if errors.As(err, &f) {
				var nothing T
				result, errno, place = nothing, f.errno, f.place
				return
			}
		}
		// Not a fault of the text: it must not pass for one.
		panic(thrown)
	}()
	r.begin()
	result = whole(r)
	r.expect(end)
	return result, api.OK, 0
}

// fail gives up, from however deep inside.
func fail(errno api.Errno, place int) {
	panic(fault{errno: errno, place: place})
}

func (r *reader) begin() {
	if len(r.text) > api.MaxLine {
		fail(api.ErrLong, 0)
	}
	r.next = tokenAt(r.text, 0)
}

// take goes on to the token behind the next one.
func (r *reader) take() token {
	taken := r.next
	r.next = tokenAt(r.text, taken.behind)
	return taken
}

// expect takes the next token, which may be of no other kind.
func (r *reader) expect(k kind) token {
	if r.next.kind != k {
		fail(api.ErrForm, r.next.place)
	}
	return r.take()
}
