package reader

import (
	"segments/api"
	"segments/command"
	"segments/system"
)

func (r *reader) line() command.Command {
	place := r.next.place
	switch r.word() {
	case "let":
		return r.let()
	case "print":
		return command.Tell{Meaning: r.namedSystem()}
	case "gcd":
		s := r.namedSystem()
		return command.Divisor{System: s, U: r.expect(number).value}
	case "roots":
		s := r.namedSystem()
		return command.Roots{System: s, U: r.expect(number).value}
	case "split":
		return command.Split{System: r.namedSystem()}
	}
	fail(api.ErrWord, place)
	return nil
}

// word takes all small letters that stand next. As no other text has words, it
// looks at the bytes, and the next token becomes the one behind the word.
func (r *reader) word() string {
	place := r.next.place
	behind := wordEnd(r.text, place)
	r.next = tokenAt(r.text, behind)
	return r.text[place:behind]
}

func (r *reader) let() command.Command {
	n := r.expect(name)
	r.expect(equals)
	return command.Give{Name: r.text[n.place], Meaning: r.system()}
}

func (r *reader) system() system.System {
	s := system.System{r.polynomial()}
	// A comma behind the last one that there may be is left, for which there
	// is no place then.
	for r.next.kind == comma && len(s) < api.MaxPolys {
		r.take()
		s = append(s, r.polynomial())
	}
	return s
}

// namedSystem takes a name, which must mean a system.
func (r *reader) namedSystem() system.System {
	n := r.expect(name)
	s, ok := r.names[r.text[n.place]].(system.System)
	if !ok {
		fail(api.ErrName, n.place)
	}
	return s
}
