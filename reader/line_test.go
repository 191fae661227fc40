package reader

import (
	"maps"
	"testing"

	"segments/api"
	"segments/command"
	"segments/names"
	"segments/system"
)

// strange means something, but is no system.
type strange struct{}

func (strange) Text() string { return "strange" }

func known(t *testing.T) names.Names {
	t.Helper()
	p, errno, _ := Polynomial("x2-u")
	if errno != api.OK {
		t.Fatal("no polynomial to begin with")
	}
	return names.Names{'A': system.System{p}, 'S': strange{}}
}

func TestLineReads(t *testing.T) {
	n := known(t)
	a := n['A'].(system.System)
	for _, c := range []struct {
		text string
		is   func(command.Command) bool
	}{
		{" let Q = x2-u ", func(c command.Command) bool {
			g, ok := c.(command.Give)
			return ok && g.Name == 'Q' && g.Meaning.Text() == a.Text()
		}},
		{"print A", func(c command.Command) bool {
			tell, ok := c.(command.Tell)
			return ok && tell.Meaning.Text() == a.Text()
		}},
		{"gcd A 12", func(c command.Command) bool {
			d, ok := c.(command.Divisor)
			return ok && d.U == 12 && d.System[0] == a[0]
		}},
		{"rootsA9", func(c command.Command) bool { r, ok := c.(command.Roots); return ok && r.U == 9 && r.System[0] == a[0] }},
		{"split A", func(c command.Command) bool { s, ok := c.(command.Split); return ok && s.System[0] == a[0] }},
	} {
		if got, errno, place := Line(c.text, n); errno != api.OK || place != 0 || !c.is(got) {
			t.Errorf("Line(%q) = %v, %d, %d", c.text, got, errno, place)
		}
	}
}

func TestLineAsksForASystem(t *testing.T) {
	for _, c := range []struct {
		text  string
		place int
	}{
		{"print S", 6}, {"gcd S 1", 4}, {"roots S 1", 6}, {"split S", 6}, {"print B", 6}, {"gcd S", 4}, {"split S ?", 6},
	} {
		if got, errno, place := Line(c.text, known(t)); got != nil || errno != api.ErrName || place != c.place {
			t.Errorf("Line(%q) = %v, %d, %d, want ErrName at %d", c.text, got, errno, place, c.place)
		}
	}
}

func TestLineChangesNoNames(t *testing.T) {
	n := known(t)
	for _, text := range []string{"let A = 1", "let B = 1", "let S = x5", "print A", "gcd A"} {
		Line(text, n)
		same := func(a, b names.Meaning) bool { return a.Text() == b.Text() }
		if !maps.EqualFunc(n, known(t), same) {
			t.Fatalf("Line(%q) changed what names mean", text)
		}
	}
}

func TestLineGivesNothingWithAnError(t *testing.T) {
	for _, text := range []string{"", "lets A=1", "let A=1,", "print A 1", "let A=1,2,3,4,5"} {
		if got, errno, _ := Line(text, known(t)); got != nil || errno == api.OK {
			t.Errorf("Line(%q) = %v, %d, want nothing and an error", text, got, errno)
		}
	}
}
