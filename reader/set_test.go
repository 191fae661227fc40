package reader

import (
	"testing"

	"segments/api"
	"segments/command"
	"segments/names"
	"segments/set"
)

// treeOf: what the set of this text is read as.
func treeOf(t *testing.T, text string, n names.Names) set.Node {
	t.Helper()
	c, errno, place := Line("set Z="+text, n)
	if errno != api.OK {
		t.Fatalf("set %q: error %d at %d", text, errno, place)
	}
	return c.(command.Collect).Tree
}

func TestSetIsATree(t *testing.T) {
	p, q := set.Set{1: true}, set.Set{1: true, 2: true}
	n := names.Names{'P': p, 'Q': q}
	u, _, _ := Polynomial("u2-3")
	for _, c := range []struct {
		text string
		want set.Node
	}{
		{"P", p}, {"(P)", p}, {"((Q))", q}, {"~P", set.Not{Of: p}}, {"~~P", set.Not{Of: set.Not{Of: p}}},
		{"[u2-3]", set.Zeros{Poly: u}}, {" [ u2 - 3 ] ", set.Zeros{Poly: u}},
		{"P&Q", set.Both{First: p, Second: q}}, {"P-Q", set.Without{First: p, Second: q}}, {"P|Q", set.Either{First: p, Second: q}},
		// from the left
		{"P-Q-P", set.Without{First: set.Without{First: p, Second: q}, Second: p}},
		{"P-Q&P", set.Both{First: set.Without{First: p, Second: q}, Second: p}},
		{"P&Q-P", set.Without{First: set.Both{First: p, Second: q}, Second: p}},
		{"P-(Q-P)", set.Without{First: p, Second: set.Without{First: q, Second: p}}},
		// the bar last, the tilde first
		{"P|Q&P", set.Either{First: p, Second: set.Both{First: q, Second: p}}},
		{"P&Q|P", set.Either{First: set.Both{First: p, Second: q}, Second: p}},
		{"~P&Q", set.Both{First: set.Not{Of: p}, Second: q}},
		{"~(P&Q)", set.Not{Of: set.Both{First: p, Second: q}}},
		{"P-~Q", set.Without{First: p, Second: set.Not{Of: q}}},
	} {
		if got := treeOf(t, c.text, n); got != c.want {
			t.Errorf("%q is read as %#v, want %#v", c.text, got, c.want)
		}
	}
}

func TestOnlyWhatIsOpenIsDeep(t *testing.T) {
	n := names.Names{'P': set.Set{}}
	for _, text := range []string{
		"~~~~~~P|~~~~~~P", "((((((P))))))&((((((P))))))", "~~~~~~P-~~~~~~[u]", "(~(~(~P)|~P)|~~P)|~~~~~~P", "(((((~P-~P)))))", "~~~~~(P|P)-~~~~~~P", "((~~~~P)-~~~~~P)",
	} {
		treeOf(t, text, n)
	}
	for _, c := range []struct {
		text  string
		place int
	}{
		{"~~~~~~~P", 6}, {"(((((((", 6}, {"~~~~~~(", 6}, {"((((((~", 6}, {"((((((P))))))|(((((((", 20}, {"~~~~~(P|~", 8}, {"(((((~P|~(", 9}, {"((((((P-~P))))))", 8}, {"~(~(~(P)|~P|~~~~", 14},
	} {
		if _, errno, place := Line("set Z="+c.text, n); errno != api.ErrDeep || place != 6+c.place {
			t.Errorf("set %q: error %d at %d, want ErrDeep at %d", c.text, errno, place, 6+c.place)
		}
	}
}

func TestOnlyBracketsKeepXOut(t *testing.T) {
	n := names.Names{'P': set.Set{}}
	if _, errno, place := Line("set Z=[u]|[x]", n); errno != api.ErrParam || place != 11 {
		t.Errorf("x in brackets: error %d at %d, want ErrParam at 11", errno, place)
	}
	if _, errno, place := Line("set Z=[u]|x", n); errno != api.ErrForm || place != 10 {
		t.Errorf("x behind brackets: error %d at %d, want ErrForm at 10", errno, place)
	}
}
