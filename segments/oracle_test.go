package segments

import (
	"math/rand"
	"strconv"
	"testing"

	"segments/api"
)

// A second reading of the document, to hold the program against: byte by byte,
// by a table of what may follow, where the program reads tokens.

type oracleTerm struct{ number, u, x int }

// oracleNext: behind each state, the state that a byte of a class leads to; '!' is wrong there.
// States: f first, n a term must begin, d one digit of a number, l a letter, t a term that may go on but by no digit.
var oracleNext = map[byte]map[byte]byte{
	'f': {' ': 'f', '-': 'n', '0': 'd', 'u': 'l'},
	'n': {' ': 'n', '0': 'd', 'u': 'l'},
	'd': {' ': 't', '+': 'n', '-': 'n', '0': 't', 'u': 'l'},
	'l': {' ': 't', '+': 'n', '-': 'n', '0': 't', 'u': 'l'},
	't': {' ': 't', '+': 'n', '-': 'n', 'u': 'l'},
}

func oracleClass(c byte) byte {
	switch {
	case c >= '0' && c <= '9':
		return '0'
	case c == 'x':
		return 'u'
	}
	return c
}

func oracle(text string) ([]oracleTerm, api.Errno, int) {
	if len(text) > 90 {
		return nil, api.ErrLong, 0
	}
	var terms []oracleTerm
	sign, state := 1, byte('f')
	for i := 0; i < len(text); i++ {
		c := text[i]
		was := state
		if state = oracleNext[was][oracleClass(c)]; state == 0 {
			return nil, api.ErrForm, i
		}
		begins := (was == 'f' || was == 'n') && (state == 'd' || state == 'l')
		if begins {
			terms = append(terms, oracleTerm{number: sign})
		}
		switch {
		case c == '+':
			sign = 1
		case c == '-':
			sign = -1
		case state == 'd':
			terms[len(terms)-1].number = sign * int(c-'0')
		case was == 'd' && oracleClass(c) == '0':
			last := &terms[len(terms)-1]
			last.number = 10*last.number + sign*int(c-'0')
		case state == 'l':
			power := 1
			if i+1 < len(text) && oracleClass(text[i+1]) == '0' {
				power = int(text[i+1] - '0')
			}
			last := &terms[len(terms)-1]
			if c == 'u' {
				last.u += power
			} else {
				last.x += power
			}
			if last.u > 6 || last.x > 4 {
				return nil, api.ErrDegree, i
			}
		}
	}
	if state == 'f' || state == 'n' {
		return nil, api.ErrForm, len(text)
	}
	return terms, api.OK, 0
}

func oracleCanon(terms []oracleTerm) string {
	text := ""
	for powers := 4*10 + 6; powers >= 0; powers-- {
		x, u, number := powers/10, powers%10, 0
		for _, t := range terms {
			if t.x == x && t.u == u {
				number += t.number
			}
		}
		number = ((number % 7) + 7) % 7
		if number == 0 {
			continue
		}
		if text != "" {
			text += "+"
		}
		if number > 1 || x+u == 0 {
			text += strconv.Itoa(number)
		}
		for _, p := range []struct {
			letter string
			power  int
		}{{"u", u}, {"x", x}} {
			if p.power > 0 {
				text += p.letter
			}
			if p.power > 1 {
				text += strconv.Itoa(p.power)
			}
		}
	}
	if text == "" {
		return "0"
	}
	return text
}

func oracleValue(terms []oracleTerm, u, x int) int {
	sum := 0
	for _, t := range terms {
		product := t.number
		for range t.u {
			product = product * u % 7
		}
		for range t.x {
			product = product * x % 7
		}
		sum += product
	}
	return ((sum % 7) + 7) % 7
}

func holdAgainstOracle(t *testing.T, text string) {
	terms, errno, place := oracle(text)
	wantText, u, x, want := "", len(text)-3, 5*len(text), 0
	if errno == api.OK {
		wantText, want = oracleCanon(terms), oracleValue(terms, u, x)
	}
	s, e, at := Canon(text)
	if s != wantText || e != errno || at != place {
		t.Fatalf("P3: Canon(%q) = %q, %d, %d, want %q, %d, %d", text, s, e, at, wantText, errno, place)
	}
	if v, e, at := Value(text, u, x); v != want || e != errno || at != place {
		t.Fatalf("P4: Value(%q, %d, %d) = %d, %d, %d, want %d, %d, %d", text, u, x, v, e, at, want, errno, place)
	}
	if errno == api.OK && len(s) <= api.MaxLine {
		if again, e, _ := Canon(s); again != s || e != api.OK {
			t.Fatalf("P3: Canon(%q) = %q, %d, want the same again", s, again, e)
		}
	}
}

func TestAllShortTexts(t *testing.T) { // P1, P3, P4
	const bytes = "0259ux+- ,A"
	var grow func(text string, more int)
	grow = func(text string, more int) {
		holdAgainstOracle(t, text)
		if more == 0 {
			return
		}
		for _, c := range bytes {
			grow(text+string(c), more-1)
		}
	}
	grow("", 5)
}

func TestAllBytes(t *testing.T) { // P1, P3, P4
	for c := range 256 {
		b := string([]byte{byte(c)})
		for _, text := range []string{b, "x" + b, "3" + b, "x2" + b, "12" + b, "x+" + b, "-" + b, "x " + b, "x " + b + "u"} {
			holdAgainstOracle(t, text)
		}
	}
}

func TestManyLongTexts(t *testing.T) { // P1, P3, P4
	random := rand.New(rand.NewSource(1)) // always the same texts
	pick := func(pieces ...string) string { return pieces[random.Intn(len(pieces))] }
	for range 100000 {
		text := pick("", "-", " - ")
		for n := random.Intn(12); n >= 0; n-- {
			text += pick("1", "7", "13", "u", "x") + pick("", " ", "u", "u2", "u5 ") + pick("", "x", "x3", " x0", "xx")
			if n > 0 {
				text += pick("+", "-", " + ")
			}
		}
		holdAgainstOracle(t, text)
		at := random.Intn(len(text))
		holdAgainstOracle(t, text[:at]+pick("x9", "u", "5", "+", " ", "?", "\xff")+text[at:])
	}
}
