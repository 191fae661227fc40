package segments

import (
	"math"
	"strings"
	"sync"
	"testing"

	"segments/api"
)

func TestCanonWrites(t *testing.T) { // P3
	for _, c := range []struct{ text, want string }{
		// the document's examples
		{"3 + x2u - 10x2 u+ 2xx", "5ux2+2x2+3"}, {"-1", "6"}, {"7", "0"}, {"x-x", "0"}, {"u0", "1"}, {"14ux", "0"},
		// the order of terms and of letters
		{"1+u+x+ux+u2x+ux2", "ux2+u2x+ux+x+u+1"}, {"u6+x", "x+u6"}, {"xu", "ux"}, {"x3u2", "u2x3"},
		// numbers: a 1 is left out only ahead of a power
		{"1", "1"}, {"8", "1"}, {"1x", "x"}, {"8u", "u"}, {"2x", "2x"}, {"6u6x4", "6u6x4"}, {"00", "0"}, {"07x", "0"}, {"99", "1"}, {"10u", "3u"},
		// powers: those of one term are added, a power of 0 is none
		{"2u3xu", "2u4x"}, {"x0u0", "1"}, {"x1u1", "ux"}, {"x4x0", "x4"}, {"u3u3", "u6"}, {"x2 x2", "x4"}, {"3x0", "3"},
		// signs, and terms that are added up
		{"-x", "6x"}, {"- x - x", "5x"}, {"x+x", "2x"}, {"3x-5x+9x", "0"}, {"x+1-x", "1"}, {"-0", "0"}, {"u-u2", "6u2+u"},
		// spaces, and the longest text
		{"  u6x4  ", "u6x4"}, {" - 3 u x ", "4ux"}, {strings.Repeat("x+", 44) + " x", "3x"}, {strings.Repeat(" ", 89) + "x", "x"},
		// the powers are not those of a function: u7 is none, but u6 is not 1
		{"u6-1", "u6+6"},
	} {
		if s, e, at := Canon(c.text); s != c.want || e != api.OK || at != 0 {
			t.Errorf("P3: Canon(%q) = %q, %d, %d, want %q, 0, 0", c.text, s, e, at, c.want)
		}
	}
}

func TestWrongTexts(t *testing.T) { // P3 and P4, and P1's empty answers
	for _, c := range []struct {
		text  string
		errno api.Errno
		place int
	}{
		// the document's examples
		{"", api.ErrForm, 0}, {"x+", api.ErrForm, 2}, {"x*2", api.ErrForm, 1}, {"123", api.ErrForm, 2}, {"u 2", api.ErrForm, 2}, {"x22", api.ErrForm, 2},
		{"x3x2", api.ErrDegree, 2}, {"uxx u6", api.ErrDegree, 4},
		// it ends too early
		{"  ", api.ErrForm, 2}, {"-", api.ErrForm, 1}, {"x- ", api.ErrForm, 3},
		// a token that may not stand there
		{"+x", api.ErrForm, 0}, {"--x", api.ErrForm, 1}, {"x+-x", api.ErrForm, 2}, {"1 2", api.ErrForm, 2}, {"12 3", api.ErrForm, 3}, {"x2 3", api.ErrForm, 3}, {"x 2", api.ErrForm, 2}, {"x02", api.ErrForm, 2},
		{"x,u", api.ErrForm, 1}, {"x=1", api.ErrForm, 1}, {"[u]", api.ErrForm, 0}, {"(u)", api.ErrForm, 0}, {"A", api.ErrForm, 0}, {"x A", api.ErrForm, 2}, {"let", api.ErrForm, 0},
		// a byte that begins no token
		{"x\t+1", api.ErrForm, 1}, {"x\n", api.ErrForm, 1}, {"x\x00", api.ErrForm, 1}, {"U", api.ErrForm, 0}, {"X", api.ErrForm, 0}, {"\xff", api.ErrForm, 0}, {"x²", api.ErrForm, 1}, {"x٣", api.ErrForm, 1}, {"x/2", api.ErrForm, 1}, {"x:", api.ErrForm, 1}, {"x\u00a0", api.ErrForm, 1},
		// too high a power, whatever the number; the first thing from the left
		{"x5", api.ErrDegree, 0}, {"u7", api.ErrDegree, 0}, {"0x9", api.ErrDegree, 1}, {"7u7", api.ErrDegree, 1}, {"x4ux", api.ErrDegree, 3}, {"x4x0x", api.ErrDegree, 4}, {"uuuuuuu", api.ErrDegree, 6}, {"x99", api.ErrDegree, 0}, {"x9?", api.ErrDegree, 0}, {"?x9", api.ErrForm, 0}, {"x22x4", api.ErrForm, 2}, {"x4+x4 x", api.ErrDegree, 6},
		// too long, ahead of all else
		{strings.Repeat("x+", 45) + "x", api.ErrLong, 0}, {"?" + strings.Repeat(" ", 90), api.ErrLong, 0}, {strings.Repeat("\xff", 1<<22), api.ErrLong, 0}, {strings.Repeat("é", 46), api.ErrLong, 0},
		{strings.Repeat(" ", 90), api.ErrForm, 90}, {strings.Repeat("x+", 45), api.ErrForm, 90}, {strings.Repeat(" ", 88) + "x5", api.ErrDegree, 88},
	} {
		if s, e, at := Canon(c.text); s != "" || e != c.errno || at != c.place {
			t.Errorf("P3: Canon(%.30q) = %q, %d, %d, want \"\", %d, %d", c.text, s, e, at, c.errno, c.place)
		}
		if v, e, at := Value(c.text, 1, 1); v != 0 || e != c.errno || at != c.place {
			t.Errorf("P4: Value(%.30q, 1, 1) = %d, %d, %d, want 0, %d, %d", c.text, v, e, at, c.errno, c.place)
		}
	}
}

func TestValueCounts(t *testing.T) { // P4
	for _, c := range []struct {
		text       string
		u, x, want int
	}{
		{"ux2-1", 2, 3, 3}, {"ux2-1", -1, 8, 5},
		{"3", 5, 5, 3}, {"u", 5, 2, 5}, {"x", 5, 2, 2}, {"-1", 0, 0, 6}, {"7", 1, 1, 0}, {"x-x", 3, 3, 0},
		{"u0", 0, 0, 1}, {"x0", 0, 0, 1}, {"u6", 0, 0, 0}, {"u6", 3, 0, 1}, {"x4", 0, 2, 2}, {"u6x4", 6, 6, 1},
		{"u", -7, 0, 0}, {"x", 0, -8, 6}, {"u", 700, 0, 0}, {"x", 0, 701, 1},
		{"u", math.MinInt64, 0, 6}, {"u", math.MaxInt64, 0, 0}, {"x", 0, math.MinInt64, 6}, {"x", 0, math.MaxInt64, 0}, {"u6x4", math.MinInt64, math.MaxInt64 - 1, 1},
	} {
		if v, e, at := Value(c.text, c.u, c.x); v != c.want || e != api.OK || at != 0 {
			t.Errorf("P4: Value(%q, %d, %d) = %d, %d, %d, want %d, 0, 0", c.text, c.u, c.x, v, e, at, c.want)
		}
	}
}

func TestAnswersHangOnTheArgumentsAlone(t *testing.T) { // P2
	var wait sync.WaitGroup
	for range 8 {
		wait.Go(func() {
			for range 200 {
				if s, e, at := Canon("ux2-1"); s != "ux2+6" || e != api.OK || at != 0 {
					t.Errorf("P2: Canon = %q, %d, %d", s, e, at)
				}
				if s, e, at := Canon("x2+u x5"); s != "" || e != api.ErrDegree || at != 5 {
					t.Errorf("P2: Canon = %q, %d, %d", s, e, at)
				}
				if v, e, at := Value("ux2-1", 2, 3); v != 3 || e != api.OK || at != 0 {
					t.Errorf("P2: Value = %d, %d, %d", v, e, at)
				}
			}
		})
	}
	wait.Wait()
}
