package reader

import (
	"maps"
	"testing"

	"segments/api"
	"segments/command"
	"segments/names"
	"segments/set"
	"segments/system"
)

// strange means something, but is neither a system nor a set.
type strange struct{}

func (strange) Text() string { return "strange" }

func known(t *testing.T) names.Names {
	t.Helper()
	p, errno, _ := Polynomial("x2-u")
	if errno != api.OK {
		t.Fatal("no polynomial to begin with")
	}
	return names.Names{'A': system.System{p}, 'P': set.Set{2: true}, 'S': strange{}}
}

func TestLineReads(t *testing.T) {
	n := known(t)
	a, p := n['A'].(system.System), n['P'].(set.Set)
	for _, c := range []struct {
		text string
		is   func(command.Command) bool
	}{
		{" let Q = x2-u ", func(c command.Command) bool {
			g, ok := c.(command.Give)
			return ok && g.Name == 'Q' && g.Meaning.Text() == a.Text()
		}},
		{"print A", func(c command.Command) bool {
			tell, ok := c.(command.Tell)
			return ok && tell.Meaning.Text() == a.Text()
		}},
		{"gcd A 12", func(c command.Command) bool {
			d, ok := c.(command.Divisor)
			return ok && d.U == 12 && d.System[0] == a[0]
		}},
		{"rootsA9", func(c command.Command) bool { r, ok := c.(command.Roots); return ok && r.U == 9 && r.System[0] == a[0] }},
		{"split A", func(c command.Command) bool { s, ok := c.(command.Split); return ok && s.System[0] == a[0] }},
		{" set Q = P ", func(c command.Command) bool {
			g, ok := c.(command.Collect)
			return ok && g.Name == 'Q' && g.Tree == p
		}},
		{"show P", func(c command.Command) bool { tell, ok := c.(command.Tell); return ok && tell.Meaning == p }},
		{"hasP12", func(c command.Command) bool { return c == command.Has{Set: p, Number: 12} }},
		{"sub P P", func(c command.Command) bool { return c == command.Within{First: p, Second: p} }},
	} {
		if got, errno, place := Line(c.text, n); errno != api.OK || place != 0 || !c.is(got) {
			t.Errorf("Line(%q) = %v, %d, %d", c.text, got, errno, place)
		}
	}
}

func TestLineAsksForTheRightMeaning(t *testing.T) {
	for _, c := range []struct {
		text  string
		place int
	}{
		{"print S", 6}, {"gcd S 1", 4}, {"roots S 1", 6}, {"split S", 6}, {"print B", 6}, {"gcd S", 4}, {"split S ?", 6},
		{"print P", 6}, {"gcd P 1", 4}, {"roots P 1", 6}, {"split P", 6},
		{"show S", 5}, {"has S 1", 4}, {"sub S P", 4}, {"sub P S", 6}, {"set Q=S", 6}, {"show B", 5}, {"has S", 4}, {"sub S", 4}, {"sub S ?", 4}, {"set Q=S ?", 6},
		{"show A", 5}, {"has A 1", 4}, {"sub A P", 4}, {"sub P A", 6}, {"set Q=A", 6}, {"set Q=P|~(P-A", 12},
	} {
		if got, errno, place := Line(c.text, known(t)); got != nil || errno != api.ErrName || place != c.place {
			t.Errorf("Line(%q) = %v, %d, %d, want ErrName at %d", c.text, got, errno, place, c.place)
		}
	}
}

func TestLineChangesNoNames(t *testing.T) {
	n := known(t)
	for _, text := range []string{"let A = 1", "let B = 1", "let S = x5", "print A", "gcd A", "set A=P", "set B=P", "set P=~P", "set P=~", "show P"} {
		Line(text, n)
		same := func(a, b names.Meaning) bool { return a.Text() == b.Text() }
		if !maps.EqualFunc(n, known(t), same) {
			t.Fatalf("Line(%q) changed what names mean", text)
		}
	}
}

func TestLineGivesNothingWithAnError(t *testing.T) {
	for _, text := range []string{"", "lets A=1", "let A=1,", "print A 1", "let A=1,2,3,4,5", "set A=", "set A=P P", "show P P", "sub P P P"} {
		if got, errno, _ := Line(text, known(t)); got != nil || errno == api.OK {
			t.Errorf("Line(%q) = %v, %d, want nothing and an error", text, got, errno)
		}
	}
}
