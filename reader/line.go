package reader

import (
	"segments/api"
	"segments/command"
	"segments/names"
	"segments/set"
	"segments/system"
)

func (r *reader) line() command.Command {
	place := r.next.place
	switch r.word() {
	case "let":
		n := r.newName()
		return command.Give{Name: n, Meaning: r.system()}
	case "print":
		return command.Tell{Meaning: named[system.System](r)}
	case "gcd":
		s := named[system.System](r)
		return command.Divisor{System: s, U: r.expect(number).value}
	case "roots":
		s := named[system.System](r)
		return command.Roots{System: s, U: r.expect(number).value}
	case "split":
		return command.Split{System: named[system.System](r)}
	case "set":
		n := r.newName()
		return command.Collect{Name: n, Tree: r.set()}
	case "show":
		return command.Tell{Meaning: named[set.Set](r)}
	case "has":
		s := named[set.Set](r)
		return command.Has{Set: s, Number: r.expect(number).value}
	case "sub":
		s := named[set.Set](r)
		return command.Within{First: s, Second: named[set.Set](r)}
	}
	fail(api.ErrWord, place)
	return nil
}

// word takes all small letters that stand next. As no other text has words, it
// looks at the bytes, and the next token becomes the one behind the word.
func (r *reader) word() string {
	place := r.next.place
	behind := wordEnd(r.text, place)
	r.next = tokenAt(r.text, behind)
	return r.text[place:behind]
}

// newName takes a name that is about to mean something, and the = behind it.
func (r *reader) newName() byte {
	n := r.expect(name)
	r.expect(equals)
	return r.text[n.place]
}

func (r *reader) system() system.System {
	s := system.System{r.polynomial()}
	// A comma behind the last one that there may be is left, for which there
	// is no place then.
	for r.next.kind == comma && len(s) < api.MaxPolys {
		r.take()
		s = append(s, r.polynomial())
	}
	return s
}

// named takes a name, which must mean a T.
func named[T names.Meaning](r *reader) T {
	n := r.expect(name)
	if meaning, ok := r.names[r.text[n.place]].(T); ok {
		return meaning
	}
	panic(fault{errno: api.ErrName, place: n.place})
}
