package command

import (
	"testing"

	"segments/names"
	"segments/poly"
	"segments/set"
	"segments/system"
)

// x2-u
func square() system.System {
	var p poly.Poly
	return system.System{p.Plus(poly.Term{Number: 1, X: 2}).Plus(poly.Term{Number: -1, U: 1})}
}

func TestGive(t *testing.T) {
	n := names.Names{'B': square()}
	for _, meaning := range []names.Meaning{square(), set.Set{3: true}, system.System{poly.Poly{}}} {
		if got := (Give{Name: 'A', Meaning: meaning}).Do(n); got != "" {
			t.Errorf("Give answers %q, want nothing", got)
		}
		if len(n) != 2 || n['A'].Text() != meaning.Text() || n['B'].Text() != square().Text() {
			t.Errorf("names mean %v", n)
		}
	}
}

func TestCollect(t *testing.T) {
	n := names.Names{'A': square(), 'B': square()}
	for _, tree := range []set.Node{set.Not{Of: set.Set{3: true}}, set.Set{5: true}} {
		if got := (Collect{Name: 'A', Tree: tree}).Do(n); got != "" {
			t.Errorf("Collect answers %q, want nothing", got)
		}
		if kept, ok := n['A'].(set.Set); len(n) != 2 || !ok || kept != set.Of(tree) || n['B'].Text() != square().Text() {
			t.Errorf("names mean %v", n)
		}
	}
}

func TestAnswers(t *testing.T) {
	for _, c := range []struct {
		command Command
		want    string
	}{
		{Tell{square()}, "x2+6u"},
		{Divisor{square(), 9}, "x2+5"},
		{Roots{square(), 9}, "3 4"},
		{Roots{square(), 3}, ""},
		{Split{square()}, "2: 0 1 2 3 4 5 6"},
		{Tell{set.Set{0: true, 4: true}}, "0 4"},
		{Tell{set.Set{}}, ""},
		{Has{set.Set{4: true}, 11}, "yes"},
		{Has{set.Set{4: true}, 12}, "no"},
		{Within{set.Set{4: true}, set.Set{0: true, 4: true}}, "yes"},
		{Within{set.Set{0: true, 4: true}, set.Set{4: true}}, "no"},
	} {
		n := names.Names{}
		if got := c.command.Do(n); got != c.want || len(n) != 0 {
			t.Errorf("%v answers %q and names mean %v, want %q and nothing", c.command, got, n, c.want)
		}
	}
}
