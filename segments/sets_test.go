package segments

import (
	"strings"
	"testing"

	"segments/api"
)

func TestSetExamples(t *testing.T) { // P10: the document's examples
	s := New()
	playLines(t, s, []did{
		{"let A = x2-u, ux-1", ""},
		{"set S = [u3-1] | ~[u]", ""}, {"show S", "1 2 3 4 5 6"},
		{"set T = S - ([u-1]|[u-9])", ""}, {"show T", "3 4 5 6"}, {"has T 9", "no"}, {"sub T S", "yes"}, {"sub S T", "no"},
	})
	refuseLines(t, s, []refused{{"show A", api.ErrName, 5}, {"gcd S 1", api.ErrName, 4}, {"set U = [ux]", api.ErrParam, 10}})
}

func TestZeros(t *testing.T) { // P10
	playLines(t, New(), []did{
		{"set A=[0]", ""}, {"show A", "0 1 2 3 4 5 6"}, {"set A=[7]", ""}, {"show A", "0 1 2 3 4 5 6"}, {"set A=[u-u]", ""}, {"show A", "0 1 2 3 4 5 6"},
		{"set A=[1]", ""}, {"show A", ""}, {"set A=[-1]", ""}, {"show A", ""}, {"set A=[u0]", ""}, {"show A", ""}, {"set A=[u2+1]", ""}, {"show A", ""},
		{"set A=[u]", ""}, {"show A", "0"}, {"set A=[-u+6]", ""}, {"show A", "6"}, {"set A=[u-99]", ""}, {"show A", "1"}, {"set A=[3u2-3u]", ""}, {"show A", "0 1"}, {"set A=[u2-2]", ""}, {"show A", "3 4"}, {"set A=[u3-1]", ""}, {"show A", "1 2 4"},
		{"set A=[u6-1]", ""}, {"show A", "1 2 3 4 5 6"}, {"set A=[u3u3-u0]", ""}, {"show A", "1 2 3 4 5 6"}, {"set A=[6u2u-5u+uu4]", ""}, {"show A", "0 2 5"},
	})
}

func TestSetsOfSets(t *testing.T) { // P10
	s := New()
	playLines(t, s, []did{{"set P=[u]|[u-1]|[u-2]", ""}, {"set Q=[u-1]|[u-2]|[u-3]", ""}, {"set R=[u-2]|[u-4]", ""}, {"set N=[1]", ""}, {"set F=~N", ""}})
	for _, c := range []did{
		{"P", "0 1 2"}, {"~P", "3 4 5 6"}, {"~~P", "0 1 2"}, {"~~~P", "3 4 5 6"}, {"N", ""}, {"F", "0 1 2 3 4 5 6"}, {"~F", ""},
		{"P|Q", "0 1 2 3"}, {"P&Q", "1 2"}, {"P-Q", "0"}, {"Q-P", "3"}, {"P-P", ""}, {"P|N", "0 1 2"}, {"P&F", "0 1 2"}, {"F-P", "3 4 5 6"}, {"N-F", ""},
		// from the left
		{"P-Q-R", "0"}, {"P-(Q-R)", "0 2"}, {"F-P-Q-R", "5 6"}, {"P-Q&R", ""}, {"P-(Q&R)", "0 1"}, {"P&Q-R", "1"}, {"P&R-Q&R", ""}, {"R-P&F", "4"},
		// a bar holds less than & and -, a tilde more
		{"P|Q&R", "0 1 2"}, {"(P|Q)&R", "2"}, {"R&P|Q", "1 2 3"}, {"R&(P|Q)", "2"}, {"P|Q-P", "0 1 2 3"}, {"(P|Q)-P", "3"}, {"P-Q|Q-P", "0 3"}, {"P-(Q|Q)-P", ""},
		{"~P&Q", "3"}, {"~(P&Q)", "0 3 4 5 6"}, {"~P|Q", "1 2 3 4 5 6"}, {"~(P|Q)", "4 5 6"}, {"~P-Q", "4 5 6"}, {"P-~Q", "1 2"}, {"P&~Q|~F", "0"}, {"~(~P)", "0 1 2"}, {"~(~P|~Q)", "1 2"},
		{" ( P ) ", "0 1 2"}, {"  ~  (  ~ P  -  [ u - 4 ]  )  ", "0 1 2 4"}, {"((P)|((R)))", "0 1 2 4"},
		{"P|P|P|P|P|P|P|P|P|P|P|P|P|P|P|P|P|P|P|P|P|P|P|P|P|P|P|P|P|P|P|P|P|P|P|P|P|P|P|P|P|P", "0 1 2"},
		// as deep as may be, and again behind it
		{"~~~~~~P", "0 1 2"}, {"((((((P))))))", "0 1 2"}, {"~(~(~(P)))", "3 4 5 6"}, {"~~~~~~P|~~~~~~R", "0 1 2 4"}, {"((((((P))))))-((((((Q))))))", "0"}, {"(((((P|~P)))))", "0 1 2 3 4 5 6"}, {"~~~~(P-~R)", "2"}, {"~~~~(~P-R)", "3 5 6"},
	} {
		playLines(t, s, []did{{"set S=" + c.line, ""}, {"show S", c.want}})
	}
}

func TestHasAndSub(t *testing.T) { // P10
	playLines(t, New(), []did{
		{"set P=[u2-u]|[u-6]", ""}, {"set Q=[u-1]", ""}, {"set N=[1]", ""}, {"set F=[0]", ""},
		{"has P 0", "yes"}, {"has P 1", "yes"}, {"has P 2", "no"}, {"has P 5", "no"}, {"has P 6", "yes"}, {"has P 7", "yes"}, {"has P 8", "yes"}, {"has P 12", "no"}, {"has P 13", "yes"}, {"has P 99", "yes"}, {"has P 98", "yes"}, {"has P 97", "yes"}, {"has P 96", "no"}, {"hasP06", "yes"}, {" has  P  00 ", "yes"}, {"has N 0", "no"}, {"has F 99", "yes"},
		{"sub Q P", "yes"}, {"sub P Q", "no"}, {"sub P P", "yes"}, {"sub N P", "yes"}, {"sub P N", "no"}, {"sub N N", "yes"}, {"sub P F", "yes"}, {"sub F P", "no"}, {"sub F F", "yes"}, {"sub N F", "yes"}, {"subQP", "yes"}, {" sub  P  Q ", "no"},
		{"set R=[u-2]", ""}, {"sub R Q", "no"}, {"sub Q R", "no"},
	})
}

func TestNamesMeanWhatTheyMeanNow(t *testing.T) { // P10
	s := New()
	playLines(t, s, []did{
		{"set P=[u]", ""}, {"set Q=~P", ""}, {"set P=[u-3]", ""}, {"show Q", "1 2 3 4 5 6"}, {"show P", "3"},
		// itself, as it was
		{"set P=P|[u-5]", ""}, {"show P", "3 5"}, {"set P=~P", ""}, {"show P", "0 1 2 4 6"}, {"show Q", "1 2 3 4 5 6"},
		// a system in the place of a set, and a set in that of a system
		{"let P=x", ""}, {"print P", "x"}, {"show Q", "1 2 3 4 5 6"},
	})
	refuseLines(t, s, []refused{{"show P", api.ErrName, 5}, {"has P 1", api.ErrName, 4}, {"sub P Q", api.ErrName, 4}, {"sub Q P", api.ErrName, 6}, {"set P=~P", api.ErrName, 7}})
	playLines(t, s, []did{{"print P", "x"}, {"set P=[u-2]", ""}, {"show P", "2"}})
	refuseLines(t, s, []refused{{"print P", api.ErrName, 6}, {"gcd P 1", api.ErrName, 4}, {"roots P 1", api.ErrName, 6}, {"split P", api.ErrName, 6}})
	playLines(t, s, []did{{"show P", "2"}})
}

func TestAllNamesMeanTheirOwnSets(t *testing.T) { // P10
	s := New()
	for i := range api.Names {
		playLines(t, s, []did{{"set " + string(rune('A'+i)) + "=[u-" + string(rune('0'+i%7)) + "]", ""}})
	}
	for i := range api.Names {
		playLines(t, s, []did{{"show " + string(rune('A'+i)), string(rune('0' + i%7))}})
	}
}

func TestWrongSets(t *testing.T) { // P5, P10
	s := New()
	playLines(t, s, []did{{"set P=[u]", ""}, {"let A=x", ""}})
	refuseLines(t, s, []refused{
		// no such word
		{"sets P=P", api.ErrWord, 0}, {"se tP=P", api.ErrWord, 0}, {"setu=P", api.ErrWord, 0}, {"Set P=P", api.ErrWord, 0}, {"shows P", api.ErrWord, 0}, {"sho", api.ErrWord, 0}, {"hasx", api.ErrWord, 0}, {" subs P P", api.ErrWord, 1}, {"~P", api.ErrWord, 0}, {" [u]", api.ErrWord, 1}, {"(P)", api.ErrWord, 0},
		// set
		{"set", api.ErrForm, 3}, {"set ", api.ErrForm, 4}, {"set 1=P", api.ErrForm, 4}, {"set p=P", api.ErrForm, 4}, {"set ~P=P", api.ErrForm, 4}, {"set P", api.ErrForm, 5}, {"set P P", api.ErrForm, 6}, {"set PP=P", api.ErrForm, 5}, {"set P=", api.ErrForm, 6}, {"set P= ", api.ErrForm, 7}, {"set P==P", api.ErrForm, 6},
		{"set P=|P", api.ErrForm, 6}, {"set P=&P", api.ErrForm, 6}, {"set P=-P", api.ErrForm, 6}, {"set P=+P", api.ErrForm, 6}, {"set P=P|", api.ErrForm, 8}, {"set P=P& ", api.ErrForm, 9}, {"set P=P-", api.ErrForm, 8}, {"set P=P||P", api.ErrForm, 8}, {"set P=P|&P", api.ErrForm, 8}, {"set P=P--P", api.ErrForm, 8}, {"set P=P+P", api.ErrForm, 7}, {"set P=P,P", api.ErrForm, 7}, {"set P=P=P", api.ErrForm, 7}, {"set P=P P", api.ErrForm, 8}, {"set P=PP", api.ErrForm, 7}, {"set P=P[u]", api.ErrForm, 7}, {"set P=[u][u]", api.ErrForm, 9}, {"set P=[u]P", api.ErrForm, 9}, {"set P=P(P)", api.ErrForm, 7}, {"set P=(P)(P)", api.ErrForm, 9}, {"set P=P~P", api.ErrForm, 7}, {"set P=P~", api.ErrForm, 7},
		{"set P=~", api.ErrForm, 7}, {"set P=~|P", api.ErrForm, 7}, {"set P=~-P", api.ErrForm, 7}, {"set P=()", api.ErrForm, 7}, {"set P=(P", api.ErrForm, 8}, {"set P=((P)", api.ErrForm, 10}, {"set P=(P|)", api.ErrForm, 9}, {"set P=(|P)", api.ErrForm, 7}, {"set P=(P]", api.ErrForm, 8}, {"set P=P)", api.ErrForm, 7}, {"set P=(P))", api.ErrForm, 9}, {"set P=)", api.ErrForm, 6}, {"set P=]", api.ErrForm, 6}, {"set P=P]", api.ErrForm, 7},
		{"set P=u", api.ErrForm, 6}, {"set P=x", api.ErrForm, 6}, {"set P=1", api.ErrForm, 6}, {"set P=p", api.ErrForm, 6}, {"set P=?", api.ErrForm, 6}, {"set P={P}", api.ErrForm, 6}, {"set P=P u", api.ErrForm, 8}, {"set P=P x", api.ErrForm, 8}, {"set P=P 1", api.ErrForm, 8}, {"set P=É", api.ErrForm, 6}, {"set P=P\t", api.ErrForm, 7},
		{"set P=[", api.ErrForm, 7}, {"set P=[]", api.ErrForm, 7}, {"set P=[ ]", api.ErrForm, 8}, {"set P=[u", api.ErrForm, 8}, {"set P=[u)", api.ErrForm, 8}, {"set P=[u+]", api.ErrForm, 9}, {"set P=[+u]", api.ErrForm, 7}, {"set P=[u,u]", api.ErrForm, 8}, {"set P=[[u]]", api.ErrForm, 7}, {"set P=[(u)]", api.ErrForm, 7}, {"set P=[~u]", api.ErrForm, 7}, {"set P=[P]", api.ErrForm, 7}, {"set P=[B]", api.ErrForm, 7}, {"set P=[u|P]", api.ErrForm, 8}, {"set P=[u&u]", api.ErrForm, 8}, {"set P=[123]", api.ErrForm, 9}, {"set P=[u22]", api.ErrForm, 9}, {"set P=[u 2]", api.ErrForm, 9}, {"set P=[u=1]", api.ErrForm, 8}, {"set P=[-]", api.ErrForm, 8}, {"set P=[--u]", api.ErrForm, 8},
		// show, has and sub
		{"show", api.ErrForm, 4}, {"show ", api.ErrForm, 5}, {"show 1", api.ErrForm, 5}, {"show p", api.ErrForm, 5}, {"show P P", api.ErrForm, 7}, {"show PP", api.ErrForm, 6}, {"show P|P", api.ErrForm, 6}, {"show ~P", api.ErrForm, 5}, {"show (P)", api.ErrForm, 5}, {"show [u]", api.ErrForm, 5}, {"show P 1", api.ErrForm, 7},
		{"has", api.ErrForm, 3}, {"has P", api.ErrForm, 5}, {"has P ", api.ErrForm, 6}, {"has 1 P", api.ErrForm, 4}, {"has P P", api.ErrForm, 6}, {"has P u", api.ErrForm, 6}, {"has P -1", api.ErrForm, 6}, {"has P 123", api.ErrForm, 8}, {"has P 1 2", api.ErrForm, 8}, {"has P 1u", api.ErrForm, 7}, {"has ~P 1", api.ErrForm, 4},
		{"sub", api.ErrForm, 3}, {"sub P", api.ErrForm, 5}, {"sub P ", api.ErrForm, 6}, {"sub P 1", api.ErrForm, 6}, {"sub 1 P", api.ErrForm, 4}, {"sub P ~P", api.ErrForm, 6}, {"sub P [u]", api.ErrForm, 6}, {"sub P,P", api.ErrForm, 5}, {"sub P P P", api.ErrForm, 8}, {"subPPP", api.ErrForm, 5},
		// sets are not for systems
		{"let P=P", api.ErrForm, 6}, {"let P=~x", api.ErrForm, 6}, {"let P=x|x", api.ErrForm, 7}, {"let P=x&x", api.ErrForm, 7}, {"let P=(x)", api.ErrForm, 6}, {"let P=x]", api.ErrForm, 7},
		// too long, ahead of all else
		{"set P=[u]" + strings.Repeat(" ", 82), api.ErrLong, 0}, {"set P=" + strings.Repeat("~", 85), api.ErrLong, 0}, {strings.Repeat("(", 1<<20), api.ErrLong, 0}, {"set P=" + strings.Repeat("(", 1<<20), api.ErrLong, 0},
	})
	playLines(t, s, []did{{"show P", "0"}, {"print A", "x"}, {"set P=[u]" + strings.Repeat(" ", 81), ""}})
}

func TestWrongNamesInSets(t *testing.T) { // P5, P10
	s := New()
	playLines(t, s, []did{{"set P=[u]", ""}, {"let A=x", ""}})
	refuseLines(t, s, []refused{
		{"set P=A", api.ErrName, 6}, {"set P=B", api.ErrName, 6}, {"set B=B", api.ErrName, 6}, {"set A=A", api.ErrName, 6}, {"set P=P|B|A", api.ErrName, 8}, {"set P=P&A", api.ErrName, 8}, {"set P=P-A", api.ErrName, 8}, {"set P=~A", api.ErrName, 7}, {"set P=(P|(A", api.ErrName, 10},
		{"show A", api.ErrName, 5}, {"show B", api.ErrName, 5}, {"has A 1", api.ErrName, 4}, {"has B 1", api.ErrName, 4}, {"sub A P", api.ErrName, 4}, {"sub P A", api.ErrName, 6}, {"sub P B", api.ErrName, 6}, {"sub A B", api.ErrName, 4},
		{"print P", api.ErrName, 6}, {"gcd P 1", api.ErrName, 4}, {"roots P 1", api.ErrName, 6}, {"split P", api.ErrName, 6},
		// ahead of what is wrong behind it, and behind what is wrong ahead of it
		{"set P=B?", api.ErrName, 6}, {"set P=B)", api.ErrName, 6}, {"set P=A|[x]", api.ErrName, 6}, {"show A ?", api.ErrName, 5}, {"has A", api.ErrName, 4}, {"has B x", api.ErrName, 4}, {"sub A", api.ErrName, 4}, {"sub A ?", api.ErrName, 4}, {"sub P A ?", api.ErrName, 6}, {"print P ?", api.ErrName, 6}, {"gcd P", api.ErrName, 4},
		{"set P=?B", api.ErrForm, 6}, {"set P=P B", api.ErrForm, 8}, {"set P=[x]|A", api.ErrParam, 7}, {"set P=(P)A", api.ErrForm, 9}, {"show P A", api.ErrForm, 7},
	})
}

func TestXInBrackets(t *testing.T) { // P5, P10
	s := New()
	playLines(t, s, []did{{"set P=[u]", ""}})
	refuseLines(t, s, []refused{
		{"set P=[x]", api.ErrParam, 7}, {"set P=[ux]", api.ErrParam, 8}, {"set P=[x0]", api.ErrParam, 7}, {"set P=[2x]", api.ErrParam, 8}, {"set P=[0x]", api.ErrParam, 8}, {"set P=[u-x]", api.ErrParam, 9}, {"set P=[-x]", api.ErrParam, 8}, {"set P=[x-x]", api.ErrParam, 7}, {"set P=[u]|[ x ]", api.ErrParam, 12}, {"set P=~([u]&[u2x", api.ErrParam, 15},
		// ahead of ErrDegree at the same place, and only there
		{"set P=[x5]", api.ErrParam, 7}, {"set P=[x9]", api.ErrParam, 7}, {"set P=[u6x9]", api.ErrParam, 9}, {"set P=[u6u x]", api.ErrDegree, 9}, {"set P=[u9x]", api.ErrDegree, 7}, {"set P=[u6x u]", api.ErrParam, 9}, {"set P=[u7]", api.ErrDegree, 7}, {"set P=[u3+u3u4]", api.ErrDegree, 12},
		{"set P=[x", api.ErrParam, 7}, {"set P=[x22]", api.ErrParam, 7}, {"set P=[x?", api.ErrParam, 7}, {"set P=[?x]", api.ErrForm, 7}, {"set P=[123x]", api.ErrForm, 9}, {"set P=x", api.ErrForm, 6}, {"set P=[u]x", api.ErrForm, 9},
	})
	// x is wrong in brackets alone, and not for the lines behind them
	playLines(t, s, []did{{"let A=x", ""}, {"print A", "x"}})
}

func TestTooDeep(t *testing.T) { // P5, P10
	s := New()
	playLines(t, s, []did{{"set P=[u]", ""}})
	refuseLines(t, s, []refused{
		{"set P=~~~~~~~P", api.ErrDeep, 12}, {"set P=(((((((P)))))))", api.ErrDeep, 12}, {"set P=~(~(~(~P)))", api.ErrDeep, 12}, {"set P=(~(~(~(P))))", api.ErrDeep, 12}, {"set P=~ ~ ~ ~ ~ ~ ~ P", api.ErrDeep, 18},
		{"set P=((((((P|~P))))))", api.ErrDeep, 14}, {"set P=((((((P&(P)))))))", api.ErrDeep, 14}, {"set P=P|~~~~~~~P", api.ErrDeep, 14}, {"set P=~~~~~~P-~~~~~~~P", api.ErrDeep, 20}, {"set P=~~~~~(P|~P)", api.ErrDeep, 14}, {"set P=(((((~P|~(P", api.ErrDeep, 15}, {"set P=~(P)|(((((((P", api.ErrDeep, 17},
		// ahead of what is wrong behind it, and behind what is wrong ahead of it
		{"set P=~~~~~~~", api.ErrDeep, 12}, {"set P=(((((((", api.ErrDeep, 12}, {"set P=~~~~~~(?", api.ErrDeep, 12}, {"set P=" + strings.Repeat("(", 84), api.ErrDeep, 12}, {"set P=~~~~~~", api.ErrForm, 12}, {"set P=~~~~~~?~", api.ErrForm, 12}, {"set P=~~~~~~B|~~~~~~~", api.ErrName, 12}, {"set P=~~~~~~[x]", api.ErrParam, 13},
		// where no set may begin, it is not for its depth that it is wrong
		{"set P=((((((P(", api.ErrForm, 13}, {"set P=((((((P~P", api.ErrForm, 13}, {"set P=((((((P)~P", api.ErrForm, 14}, {"set P=~~~~~~[~", api.ErrForm, 13},
	})
	playLines(t, s, []did{{"set P=~~~~~~P", ""}, {"show P", "0"}})
}

func TestWrongSetsChangeNothing(t *testing.T) { // P1
	s := New()
	playLines(t, s, []did{{"set P=[u]", ""}, {"let A=x", ""}})
	for _, line := range []string{
		"set P=~P P", "set P=~P)", "set P=~P|", "set P=~P|B", "set P=~P|A", "set P=~P-[x]", "set P=~P-[u7]", "set P=~~~~~~~P", "set A=P,", "set A=P|A", "set B=P P", "set B=B", "set P=~P" + strings.Repeat(" ", 90), "show P P", "has P", "sub P",
	} {
		if a, e, _ := s.Do(line); a != "" || e == api.OK {
			t.Errorf("Do(%.20q) = %q, %d, want an error", line, a, e)
		}
		playLines(t, s, []did{{"show P", "0"}, {"print A", "x"}})
		refuseLines(t, s, []refused{{"show B", api.ErrName, 5}, {"print B", api.ErrName, 6}})
	}
}

func TestAskingOfSetsChangesNothing(t *testing.T) { // P2
	s, other := New(), New()
	playLines(t, s, []did{{"set P=[u]", ""}, {"set Q=~P", ""}})
	for range 3 {
		playLines(t, s, []did{{"show P", "0"}, {"has P 7", "yes"}, {"sub P Q", "no"}, {"show Q", "1 2 3 4 5 6"}})
		refuseLines(t, other, []refused{{"show P", api.ErrName, 5}, {"set R=P", api.ErrName, 6}})
	}
}
