package reader

import (
	"errors"
	"strings"
	"testing"

	"segments/api"
	"segments/poly"
)

func TestPolynomialReads(t *testing.T) {
	var want poly.Poly
	want[2][4] = 2
	want[0][0] = 6
	if p, errno, place := Polynomial(" 2u3xu x - 1 "); p != want || errno != api.OK || place != 0 {
		t.Errorf("Polynomial = %v, %d, %d, want %v", p, errno, place, want)
	}
}

func TestPolynomialGivesNothingWithAnError(t *testing.T) {
	for _, text := range []string{"x+u+", "x+x5", "x+" + strings.Repeat(" ", api.MaxLine)} {
		if p, errno, _ := Polynomial(text); p != (poly.Poly{}) || errno == api.OK {
			t.Errorf("Polynomial(%.20q) = %v, %d, want the polynomial 0 and an error", text, p, errno)
		}
	}
}

func TestReadingGivesUpWithAFault(t *testing.T) {
	defer func() {
		err, _ := recover().(error)
		var f fault
		if !errors.As(err, &f) || f != (fault{api.ErrDegree, 2}) {
			t.Errorf("gave up with %v, want ErrDegree at 2", err)
		}
	}()
	r := &reader{text: "x2x3"}
	r.begin()
	r.polynomial()
}

func TestTokens(t *testing.T) {
	text := " 123u 4x56+-AZ,=@|&~()[]{}\\"
	want := []token{
		{number, 1, 3, 12}, {number, 3, 4, 3}, {powerU, 4, 5, 1}, {number, 6, 7, 4}, {powerX, 7, 9, 5},
		{number, 9, 10, 6}, {plus, 10, 11, 0}, {minus, 11, 12, 0}, {name, 12, 13, 0}, {name, 13, 14, 0}, {comma, 14, 15, 0},
		{equals, 15, 16, 0}, {other, 16, 17, 0}, {bar, 17, 18, 0}, {ampersand, 18, 19, 0}, {tilde, 19, 20, 0}, {opening, 20, 21, 0},
		{closing, 21, 22, 0}, {leftBracket, 22, 23, 0}, {rightBracket, 23, 24, 0}, {other, 24, 25, 0}, {other, 25, 26, 0},
		{other, 26, 27, 0}, {end, 27, 27, 0}, {end, 27, 27, 0},
	}
	at := 0
	for _, w := range want {
		got := tokenAt(text, at)
		if got != w {
			t.Fatalf("token from %d on = %v, want %v", at, got, w)
		}
		at = got.behind
	}
}
