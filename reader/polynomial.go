package reader

import (
	"segments/api"
	"segments/poly"
)

func (r *reader) polynomial() poly.Poly {
	var sum poly.Poly
	negative := r.next.kind == minus
	if negative {
		r.take()
	}
	for {
		t := r.term()
		if negative {
			t.Number = -t.Number
		}
		sum = sum.Plus(t)
		if r.next.kind != plus && r.next.kind != minus {
			return sum
		}
		negative = r.take().kind == minus
	}
}

func (r *reader) term() poly.Term {
	t := poly.Term{Number: 1}
	switch r.next.kind {
	case powerU, powerX:
		// Its powers are read below: a term without a number counts once.
	default:
		t.Number = r.expect(number).value
	}
	for r.next.kind == powerU || r.next.kind == powerX {
		t = r.power(t)
	}
	return t
}

// power is t times the power that stands next.
func (r *reader) power(t poly.Term) poly.Term {
	taken := r.take()
	// Ahead of what the power makes: any x is wrong here, however low.
	if r.onlyU && taken.kind == powerX {
		fail(api.ErrParam, taken.place)
	}
	if taken.kind == powerU {
		t.U += taken.value
	} else {
		t.X += taken.value
	}
	if t.U > api.MaxU || t.X > api.MaxX {
		fail(api.ErrDegree, taken.place)
	}
	return t
}
