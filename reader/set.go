package reader

import (
	"segments/api"
	"segments/set"
)

func (r *reader) set() set.Node {
	tree := r.part()
	for r.next.kind == bar {
		r.take()
		tree = set.Either{First: tree, Second: r.part()}
	}
	return tree
}

func (r *reader) part() set.Node {
	tree := r.piece()
	for {
		switch r.next.kind {
		case ampersand:
			r.take()
			tree = set.Both{First: tree, Second: r.piece()}
		case minus:
			r.take()
			tree = set.Without{First: tree, Second: r.piece()}
		default:
			return tree
		}
	}
}

func (r *reader) piece() set.Node {
	switch r.next.kind {
	case tilde:
		return r.inside(r.complement)
	case opening:
		return r.inside(r.enclosed)
	case leftBracket:
		return r.zeros()
	}
	return named[set.Set](r)
}

// inside takes the ~ or ( that stands next; it is open while what it is for is read.
func (r *reader) inside(content func() set.Node) set.Node {
	if r.deep == api.MaxDeep {
		fail(api.ErrDeep, r.next.place)
	}
	r.take()
	r.deep++
	tree := content()
	r.deep--
	return tree
}

func (r *reader) complement() set.Node {
	return set.Not{Of: r.piece()}
}

// enclosed is the set behind a ( up to its ), which is taken too.
func (r *reader) enclosed() set.Node {
	tree := r.set()
	r.expect(closing)
	return tree
}

func (r *reader) zeros() set.Node {
	r.expect(leftBracket)
	r.onlyU = true
	p := r.polynomial()
	r.onlyU = false
	r.expect(rightBracket)
	return set.Zeros{Poly: p}
}
