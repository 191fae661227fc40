package command

import (
	"testing"

	"segments/names"
	"segments/poly"
	"segments/system"
)

// x2-u
func square() system.System {
	var p poly.Poly
	return system.System{p.Plus(poly.Term{Number: 1, X: 2}).Plus(poly.Term{Number: -1, U: 1})}
}

func TestGive(t *testing.T) {
	n := names.Names{'B': square()}
	for _, meaning := range []system.System{square(), {poly.Poly{}}} {
		if got := (Give{Name: 'A', Meaning: meaning}).Do(n); got != "" {
			t.Errorf("Give answers %q, want nothing", got)
		}
		if len(n) != 2 || n['A'].Text() != meaning.Text() || n['B'].Text() != square().Text() {
			t.Errorf("names mean %v", n)
		}
	}
}

func TestAnswers(t *testing.T) {
	for _, c := range []struct {
		command Command
		want    string
	}{
		{Tell{square()}, "x2+6u"},
		{Divisor{square(), 9}, "x2+5"},
		{Roots{square(), 9}, "3 4"},
		{Roots{square(), 3}, ""},
		{Split{square()}, "2: 0 1 2 3 4 5 6"},
	} {
		n := names.Names{}
		if got := c.command.Do(n); got != c.want || len(n) != 0 {
			t.Errorf("%v answers %q and names mean %v, want %q and nothing", c.command, got, n, c.want)
		}
	}
}
