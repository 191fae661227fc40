package segments

import (
	"strings"
	"testing"

	"segments/api"
)

// did: a line, and what it must answer.
type did struct{ line, want string }

func playLines(t *testing.T, s *Session, lines []did) {
	t.Helper()
	for _, c := range lines {
		if a, e, at := s.Do(c.line); a != c.want || e != api.OK || at != 0 {
			t.Errorf("Do(%q) = %q, %d, %d, want %q, 0, 0", c.line, a, e, at, c.want)
		}
	}
}

// refused: a line, what is wrong with it, and where.
type refused struct {
	line  string
	errno api.Errno
	place int
}

func refuseLines(t *testing.T, s *Session, lines []refused) {
	t.Helper()
	for _, c := range lines {
		if a, e, at := s.Do(c.line); a != "" || e != c.errno || at != c.place {
			t.Errorf("Do(%.40q) = %q, %d, %d, want \"\", %d, %d", c.line, a, e, at, c.errno, c.place)
		}
	}
}

func TestSessionExamples(t *testing.T) { // P5 to P9: the document's examples
	s := New()
	playLines(t, s, []did{
		{"let A = x2-u, ux-1", ""}, {"print A", "x2+6u, ux+6"},
		{"gcd A 1", "x+6"}, {"gcd A 2", "x+3"}, {"gcd A 0", "1"},
		{"roots A 1", "1"}, {"roots A 2", "4"}, {"roots A 3", ""},
		{"split A", "0: 0 3 5 6; 1: 1 2 4"},
	})
	refuseLines(t, s, []refused{{"gcd B 1", api.ErrName, 4}, {"foo", api.ErrWord, 0}, {"gcd A", api.ErrForm, 5}})
}

func TestNilSession(t *testing.T) { // P1
	var none *Session
	for _, line := range []string{"", "foo", "let A=1", "print A", "set A=[u]", "show A", strings.Repeat(" ", 91)} {
		refuseLines(t, none, []refused{{line, api.ErrNil, 0}})
	}
}

func TestNewSessionHasNoNames(t *testing.T) { // P5
	s := New()
	for c := 'A'; c <= 'Z'; c++ {
		n := string(c)
		refuseLines(t, s, []refused{{"print " + n, api.ErrName, 6}, {"gcd " + n + " 1", api.ErrName, 4}, {"roots " + n + " 1", api.ErrName, 6}, {"split " + n, api.ErrName, 6}, {"show " + n, api.ErrName, 5}, {"has " + n + " 1", api.ErrName, 4}, {"sub " + n + n, api.ErrName, 4}, {"set A=" + n, api.ErrName, 6}})
	}
}

func TestAllNamesMeanTheirOwn(t *testing.T) { // P6
	s := New()
	for i := range api.Names {
		n := string(rune('A' + i))
		playLines(t, s, []did{{"let " + n + " = x" + string(rune('0'+i%5)) + "u" + string(rune('0'+i/5)), ""}})
	}
	for i := range api.Names {
		want, _, _ := Canon("x" + string(rune('0'+i%5)) + "u" + string(rune('0'+i/5)))
		playLines(t, s, []did{{"print " + string(rune('A'+i)), want}})
	}
}

func TestLetAndPrint(t *testing.T) { // P6
	playLines(t, New(), []did{
		{"let A=1,2,3,4", ""}, {"print A", "1, 2, 3, 4"},
		{"let A = 3 + x2u - 10x2 u+ 2xx , 7,x-x", ""}, {"print A", "5ux2+2x2+3, 0, 0"},
		{"let B = -1,-x", ""}, {"print B", "6, 6x"}, {"print A", "5ux2+2x2+3, 0, 0"},
		{"let A = u", ""}, {"print A", "u"}, {"print A", "u"}, {"let A = u, u, u", ""}, {"print A", "u, u, u"},
		// spaces ahead of, between and behind the tokens, or none at all
		{"letC=ux+u,u2x+u2", ""}, {"printC", "ux+u, u2x+u2"}, {"  let  C  =  x  ,  1  ", ""}, {"  print  C  ", "x, 1"},
		{"let D=" + strings.Repeat("x+", 41) + "x ", ""}, {"print D", "0"}, {strings.Repeat(" ", 83) + "print B", "6, 6x"},
		{"let E = x4u6+x4u5+x4u4,x3u6+x3u5", ""}, {"print E", "u6x4+u5x4+u4x4, u6x3+u5x3"},
	})
}

func TestGcd(t *testing.T) { // P7
	playLines(t, New(), []did{
		{"let Z = 0, 7, x-x", ""}, {"gcd Z 3", "0"},
		{"let B = 3", ""}, {"gcd B 0", "1"}, {"let B = 0, 5", ""}, {"gcd B 0", "1"},
		{"let C = ux4 - u, u x2-u", ""}, {"gcd C 1", "x2+6"}, {"gcd C 0", "0"}, {"gcd C 7", "0"}, {"gcd C 14", "0"}, {"gcd C 99", "x2+6"},
		{"let D = 3x4", ""}, {"gcd D 6", "x4"}, {"let D = 0, 2x+1, 0", ""}, {"gcd D 6", "x+4"},
		{"let E = x2-1, x2-3x+2", ""}, {"gcd E 0", "x+6"}, {"let E = x2-3x+2, x2-1, x+1", ""}, {"gcd E 0", "1"},
		{"let F = u6-1, x", ""}, {"gcd F 0", "1"}, {"gcd F 1", "x"}, {"gcdF07", "1"}, {"gcd F 00", "1"},
		{"let G = x4+2x3+x+2, 3x3+6x2+3x+6", ""}, {"gcd G 0", "x+2"},
		// no root, and yet a common divisor
		{"let H = x4-1, x3+x", ""}, {"gcd H 5", "x2+1"}, {"roots H 5", ""},
	})
}

func TestRoots(t *testing.T) { // P8
	playLines(t, New(), []did{
		{"let A = 0", ""}, {"roots A 3", "0 1 2 3 4 5 6"}, {"let A = u", ""}, {"roots A 70", "0 1 2 3 4 5 6"}, {"roots A 71", ""},
		{"let A = x", ""}, {"roots A 0", "0"}, {"let A = x2-u", ""}, {"roots A 4", "2 5"}, {"roots A 3", ""}, {"roots A 0", "0"}, {"roots A 11", "2 5"},
		{"let A = x3-1, 0", ""}, {"roots A 0", "1 2 4"}, {"let A = x3-1, x-2", ""}, {"roots A 0", "2"}, {"let A = x-1, x-2", ""}, {"roots A 0", ""},
		{"let A = x4-x", ""}, {"rootsA0", "0 1 2 4"},
	})
}

func TestSplit(t *testing.T) { // P9
	playLines(t, New(), []did{
		{"let A = 0", ""}, {"split A", "all: 0 1 2 3 4 5 6"},
		{"let A = 3", ""}, {"split A", "0: 0 1 2 3 4 5 6"},
		{"let A = u-1, u2-1", ""}, {"split A", "0: 0 2 3 4 5 6; all: 1"},
		{"let A = u2x4+x", ""}, {"split A", "1: 0; 4: 1 2 3 4 5 6"},
		{"let A = u3x-x, u2-1", ""}, {"split A", "0: 0 2 3 4 5; 1: 6; all: 1"},
		{"let A = x4", ""}, {"split A", "4: 0 1 2 3 4 5 6"},
		// a segment of each degree that there is
		{"let A=u5x4+4u4x4+6u2x4+3ux4+u4x3+4u3x3+6ux3+3x3+u3x2+5u2x2+5ux2+4x2+u2x+5x+u+3", ""}, {"split A", "0: 3; 1: 2; 2: 1; 3: 0; 4: 5 6; all: 4"},
	})
}

func TestWrongLines(t *testing.T) { // P5
	s := New()
	playLines(t, s, []did{{"let A = x2-u, ux-1", ""}})
	refuseLines(t, s, []refused{
		// no such word
		{"", api.ErrWord, 0}, {" ", api.ErrWord, 1}, {strings.Repeat(" ", 90), api.ErrWord, 90},
		{"foo", api.ErrWord, 0}, {"  u A", api.ErrWord, 2}, {"x", api.ErrWord, 0}, {" A = x", api.ErrWord, 1}, {" 7", api.ErrWord, 1}, {"=", api.ErrWord, 0}, {"?", api.ErrWord, 0}, {"\t", api.ErrWord, 0}, {" \xff", api.ErrWord, 1},
		{"le", api.ErrWord, 0}, {"l et A=1", api.ErrWord, 0}, {"lets A=1", api.ErrWord, 0}, {"letx", api.ErrWord, 0}, {"letu=1", api.ErrWord, 0}, {"Let A=1", api.ErrWord, 0}, {"LET A=1", api.ErrWord, 0}, {"printa", api.ErrWord, 0}, {"gcdgcd A 1", api.ErrWord, 0}, {"root A 1", api.ErrWord, 0}, {"splits A", api.ErrWord, 0}, {"foo ?", api.ErrWord, 0},
		// let
		{"let", api.ErrForm, 3}, {"let ", api.ErrForm, 4}, {"let?", api.ErrForm, 3}, {"let7", api.ErrForm, 3}, {"let a=1", api.ErrForm, 4}, {"let let", api.ErrForm, 4}, {"let A", api.ErrForm, 5}, {"let A 1", api.ErrForm, 6}, {"let =1", api.ErrForm, 4}, {"let A=", api.ErrForm, 6}, {"let A= ", api.ErrForm, 7}, {"let A==1", api.ErrForm, 6}, {"let AB=1", api.ErrForm, 5}, {"let A B", api.ErrForm, 6}, {"let @=1", api.ErrForm, 4}, {"let [=1", api.ErrForm, 4}, {"let É=1", api.ErrForm, 4},
		{"let A=,1", api.ErrForm, 6}, {"let A=1,", api.ErrForm, 8}, {"let A=1,,2", api.ErrForm, 8}, {"let A=1 , ", api.ErrForm, 10}, {"let A=1;2", api.ErrForm, 7}, {"let A=1 B", api.ErrForm, 8}, {"let A=B", api.ErrForm, 6}, {"let A=[u]", api.ErrForm, 6}, {"let A=(u)", api.ErrForm, 6}, {"let A=x=1", api.ErrForm, 7}, {"let A=x,u=1", api.ErrForm, 9}, {"let A=123", api.ErrForm, 8}, {"let A=x22", api.ErrForm, 8}, {"let A=x print", api.ErrForm, 8},
		{"let A=1,2,3,4,", api.ErrForm, 13}, {"let A=1,2,3,4,5", api.ErrForm, 13}, {"let A=1,2,3,4 , x5", api.ErrForm, 14}, {"let A=1,2,3,4?", api.ErrForm, 13},
		{"let A=x5", api.ErrDegree, 6}, {"let A=1,u7", api.ErrDegree, 8}, {"let A=1,2,3,xu4u4,5", api.ErrDegree, 15}, {"let A=x5,?", api.ErrDegree, 6}, {"let A=?,x5", api.ErrForm, 6},
		// the others
		{"print", api.ErrForm, 5}, {"print ", api.ErrForm, 6}, {"print 1", api.ErrForm, 6}, {"print a", api.ErrForm, 6}, {"print x", api.ErrForm, 6}, {"print A 1", api.ErrForm, 8}, {"print A A", api.ErrForm, 8}, {"print AB", api.ErrForm, 7}, {"print A,", api.ErrForm, 7}, {"print A=1", api.ErrForm, 7},
		{"gcd", api.ErrForm, 3}, {"gcd A ", api.ErrForm, 6}, {"gcd 1 A", api.ErrForm, 4}, {"gcd A x", api.ErrForm, 6}, {"gcd A -1", api.ErrForm, 6}, {"gcd A 123", api.ErrForm, 8}, {"gcd A123", api.ErrForm, 7}, {"gcd A 1 2", api.ErrForm, 8}, {"gcd A 1x", api.ErrForm, 7}, {"gcd A 1+1", api.ErrForm, 7}, {"gcd A A", api.ErrForm, 6}, {"gcd A,1", api.ErrForm, 5},
		{"roots", api.ErrForm, 5}, {"roots A", api.ErrForm, 7}, {"roots 1 A", api.ErrForm, 6}, {"roots A 1 1", api.ErrForm, 10}, {"roots A 001", api.ErrForm, 10},
		{"split", api.ErrForm, 5}, {"split A 1", api.ErrForm, 8}, {"split a", api.ErrForm, 6}, {"split A?", api.ErrForm, 7},
		// a name that means nothing, ahead of what is wrong behind it
		{"print B", api.ErrName, 6}, {"print  B ?", api.ErrName, 7}, {"printB", api.ErrName, 5}, {"gcd B", api.ErrName, 4}, {"gcd B x", api.ErrName, 4}, {"roots Z 1", api.ErrName, 6}, {"split BA", api.ErrName, 6},
		// too long, ahead of all else
		{strings.Repeat(" ", 91), api.ErrLong, 0}, {"?" + strings.Repeat(" ", 90), api.ErrLong, 0}, {"print A" + strings.Repeat(" ", 84), api.ErrLong, 0}, {strings.Repeat("let", 1<<20), api.ErrLong, 0},
	})
	playLines(t, s, []did{{"print A" + strings.Repeat(" ", 83), "x2+6u, ux+6"}})
}

func TestWrongLinesChangeNothing(t *testing.T) { // P1
	s := New()
	playLines(t, s, []did{{"let A = x2-u, ux-1", ""}})
	for _, line := range []string{
		"let A=1,", "let A=1 2", "let A=1,2,3,4,5", "let A=x5", "let A=1,x5", "let A", "let A=", "let A=1 B", "let B=1,", "let B", "gcd A", "print A A",
		"let A=1" + strings.Repeat(" ", 90),
	} {
		if a, e, _ := s.Do(line); a != "" || e == api.OK {
			t.Errorf("Do(%.20q) = %q, %d, want an error", line, a, e)
		}
		playLines(t, s, []did{{"print A", "x2+6u, ux+6"}})
		refuseLines(t, s, []refused{{"print B", api.ErrName, 6}})
	}
}

func TestAskingChangesNothing(t *testing.T) { // P2
	s := New()
	lines := []did{{"print A", "x2+6u, ux+6"}, {"gcd A 1", "x+6"}, {"roots A 2", "4"}, {"split A", "0: 0 3 5 6; 1: 1 2 4"}}
	playLines(t, s, []did{{"let A = x2-u, ux-1", ""}})
	for range 3 {
		playLines(t, s, lines)
	}
}

func TestSessionsAreApart(t *testing.T) { // P2, P5
	a, b := New(), New()
	playLines(t, a, []did{{"let A = x", ""}})
	refuseLines(t, b, []refused{{"print A", api.ErrName, 6}})
	playLines(t, b, []did{{"let A = u", ""}, {"let B = 1", ""}})
	playLines(t, a, []did{{"print A", "x"}})
	refuseLines(t, a, []refused{{"print B", api.ErrName, 6}})
	refuseLines(t, New(), []refused{{"print A", api.ErrName, 6}})
}
