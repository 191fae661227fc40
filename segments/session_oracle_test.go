package segments

import (
	"math/rand"
	"strconv"
	"strings"
	"testing"

	"segments/api"
)

// A second reading of the document for lines: it cuts a system at its commas,
// and finds a greatest common divisor among all polynomials, by what the word means.

// inX: a polynomial without u: the numbers of x0 to x4.
type inX [5]int

func (p inX) degree() int {
	for i := 4; i >= 0; i-- {
		if p[i] != 0 {
			return i
		}
	}
	return -1
}

// oracleMultiples: behind each monic polynomial, all that it divides, as far as
// they have room.
func oracleMultiples() map[inX]map[inX]bool {
	var all []inX
	for n := range 7 * 7 * 7 * 7 * 7 {
		all = append(all, inX{n % 7, n / 7 % 7, n / 49 % 7, n / 343 % 7, n / 2401})
	}
	multiples := map[inX]map[inX]bool{}
	for _, p := range all {
		degree := p.degree()
		if degree < 0 || p[degree] != 1 {
			continue
		}
		multiples[p] = map[inX]bool{}
		for _, q := range all {
			if degree+q.degree() > 4 {
				break // all further ones are of no lesser degree
			}
			var product inX
			for i := range degree + 1 {
				for j := range q.degree() + 1 {
					product[i+j] = (product[i+j] + p[i]*q[j]) % 7
				}
			}
			multiples[p][product] = true
		}
	}
	return multiples
}

type oracleSession struct {
	systems   map[byte][][]oracleTerm
	sets      map[byte]bits
	multiples map[inX]map[inX]bool
}

func oracleAt(terms []oracleTerm, u int) inX {
	var p inX
	for x := range p {
		var row []oracleTerm
		for _, t := range terms {
			if t.x == x {
				row = append(row, oracleTerm{t.number, t.u, 0})
			}
		}
		p[x] = oracleValue(row, u, 0)
	}
	return p
}

// gcd: the polynomial of the highest degree among the monic ones that divide all.
func (s *oracleSession) gcd(system [][]oracleTerm, u int) inX {
	var best inX
	var at []inX
	for _, terms := range system {
		if p := oracleAt(terms, u); p != (inX{}) { // 0 is divided by all
			at = append(at, p)
		}
	}
	if at == nil {
		return inX{}
	}
	for p, multiples := range s.multiples {
		divides := true
		for _, q := range at {
			divides = divides && multiples[q]
		}
		if divides && p.degree() > best.degree() {
			best = p
		}
	}
	return best
}

func (p inX) text() string {
	var terms []oracleTerm
	for i, number := range p {
		terms = append(terms, oracleTerm{number, 0, i})
	}
	return oracleCanon(terms)
}

// nonSpace: the place of the first byte from i on that is no space.
func nonSpace(line string, i int) int {
	return len(line) - len(strings.TrimLeft(line[i:], " "))
}

func (s *oracleSession) do(line string) (string, api.Errno, int) {
	if len(line) > 90 {
		return "", api.ErrLong, 0
	}
	i := nonSpace(line, 0)
	word := line[i:]
	for j, c := range word {
		if c < 'a' || c > 'z' {
			word = word[:j]
			break
		}
	}
	if !strings.Contains(" let print gcd roots split set show has sub ", " "+word+" ") {
		return "", api.ErrWord, i
	}
	i = nonSpace(line, i+len(word))
	if i == len(line) || line[i] < 'A' || line[i] > 'Z' {
		return "", api.ErrForm, i
	}
	name, place := line[i], i
	i = nonSpace(line, i+1)
	switch word {
	case "let", "set":
		if i == len(line) || line[i] != '=' {
			return "", api.ErrForm, i
		}
		if word == "let" {
			return s.let(name, line, i+1)
		}
		return s.set(name, line, i+1)
	case "show", "has", "sub":
		if _, ok := s.sets[name]; !ok {
			return "", api.ErrName, place
		}
	default:
		if s.systems[name] == nil {
			return "", api.ErrName, place
		}
	}
	return s.ask(word, name, line, i)
}

// ask: what is behind the name of a line that changes nothing.
func (s *oracleSession) ask(word string, name byte, line string, i int) (string, api.Errno, int) {
	number, second := 0, byte(0)
	switch word {
	case "gcd", "roots", "has":
		digits := 0
		for ; digits < 2 && i < len(line) && line[i] >= '0' && line[i] <= '9'; digits++ {
			number = 10*number + int(line[i]-'0')
			i++
		}
		if digits == 0 {
			return "", api.ErrForm, i
		}
	case "sub":
		if i == len(line) || line[i] < 'A' || line[i] > 'Z' {
			return "", api.ErrForm, i
		}
		second = line[i]
		if _, ok := s.sets[second]; !ok {
			return "", api.ErrName, i
		}
		i++
	}
	i = nonSpace(line, i)
	if i < len(line) {
		return "", api.ErrForm, i
	}
	switch word {
	case "show", "has", "sub":
		return answerOfSet(word, s.sets[name], s.sets[second], number), api.OK, 0
	}
	return s.answer(word, s.systems[name], number%7), api.OK, 0
}

func (s *oracleSession) let(name byte, line string, i int) (string, api.Errno, int) {
	var system [][]oracleTerm
	for _, text := range strings.Split(line[i:], ",") {
		if len(system) == 4 {
			return "", api.ErrForm, i - 1
		}
		terms, errno, place := oracle(text)
		if errno != api.OK {
			return "", errno, i + place
		}
		system = append(system, terms)
		i += len(text) + 1
	}
	delete(s.sets, name)
	s.systems[name] = system
	return "", api.OK, 0
}

func (s *oracleSession) answer(word string, system [][]oracleTerm, number int) string {
	answer := ""
	switch word {
	case "print":
		for i, terms := range system {
			if i > 0 {
				answer += ", "
			}
			answer += oracleCanon(terms)
		}
	case "gcd":
		answer = s.gcd(system, number).text()
	case "roots":
		for x := range 7 {
			zeros := 0
			for _, terms := range system {
				if oracleValue(terms, number, x) == 0 {
					zeros++
				}
			}
			if zeros == len(system) {
				answer += " " + strconv.Itoa(x)
			}
		}
		answer = strings.TrimPrefix(answer, " ")
	case "split":
		for _, degree := range []int{0, 1, 2, 3, 4, -1} {
			values := ""
			for u := range 7 {
				if s.gcd(system, u).degree() == degree {
					values += " " + strconv.Itoa(u)
				}
			}
			if values != "" {
				answer += "; " + strings.Replace(strconv.Itoa(degree), "-1", "all", 1) + ":" + values
			}
		}
		answer = strings.TrimPrefix(answer, "; ")
	}
	return answer
}

func holdLine(t *testing.T, s *Session, o *oracleSession, line string) {
	t.Helper()
	want, errno, place := o.do(line)
	if a, e, at := s.Do(line); a != want || e != errno || at != place {
		t.Fatalf("Do(%q) = %q, %d, %d, want %q, %d, %d", line, a, e, at, want, errno, place)
	}
}

func newPair() (*Session, *oracleSession) {
	return New(), &oracleSession{systems: map[byte][][]oracleTerm{}, sets: map[byte]bits{}}
}

func TestAllShortLines(t *testing.T) { // P1, P2, P5, P6
	pieces := []string{"let", "print", "gcd", "roots", "A", "B", "=", ",", "x", "u4", "0", "12", "-", " ", "?"}
	s, o := newPair()
	o.multiples = oracleMultiples()
	var grow func(line string, more int)
	grow = func(line string, more int) {
		holdLine(t, s, o, line)
		if more == 0 {
			return
		}
		for _, p := range pieces {
			grow(line+p, more-1)
		}
	}
	grow("", 4)
	for _, begin := range []string{"let A=x", "let A=x,u,1", "let B=u, x u4", "gcd A", "roots B", "print A", "split"} {
		grow(begin, 3)
	}
}

func TestAllBytesInLines(t *testing.T) { // P1, P5
	s, o := newPair()
	o.multiples = oracleMultiples()
	holdLine(t, s, o, "let A = x2-u")
	for c := range 256 {
		b := string([]byte{byte(c)})
		for _, line := range []string{b, b + "let A=1", "let" + b + "A=1", "let " + b + "=1", "let A" + b, "let A" + b + "1", "let A=1" + b, "let A=1,2,3,4" + b, "let A=" + b, "print" + b, "print " + b, "print A" + b, "gcd A" + b, "gcd A 1" + b, "gcd A 12" + b, "roots A" + b, "roots A " + b + "2", "split" + b + "A", "split A" + b} {
			holdLine(t, s, o, line)
		}
	}
}

func TestManySessions(t *testing.T) { // P1, P2, P5 to P9
	random := rand.New(rand.NewSource(2)) // always the same sessions
	pick := func(pieces ...string) string { return pieces[random.Intn(len(pieces))] }
	multiples := oracleMultiples()
	polynomial := func() string {
		text := pick("", "-")
		for n := random.Intn(4); n >= 0; n-- {
			text += pick("1", "2", "3", "5", "6", "11") + pick("", "", "u", "u2", "u5") + pick("", "x", "x2", "x3", "x4")
			if n > 0 {
				text += pick("+", "-", " + ")
			}
		}
		return pick(text, text, text, text, "0", "u-1", "x2-1", "x-u", "u3x-x", "ux+2u")
	}
	for range 60 {
		s, o := newPair()
		o.multiples = multiples
		for range 25 {
			line := pick("let ", "let", " let ") + pick("A", "B", "Z") + pick("=", " = ") + polynomial()
			for n := random.Intn(4); n > 0; n-- {
				line += pick(",", " , ") + polynomial()
			}
			holdLine(t, s, o, line)
			at := random.Intn(len(line))
			holdLine(t, s, o, line[:at]+pick("x4", "u", "5", ",", "=", "A", " ", "?", "\xff")+line[at:])
			for _, ask := range []string{"print ", "split ", "gcd ", "roots "} {
				line := ask + pick("A", "B", "Z")
				if ask == "gcd " || ask == "roots " {
					line += pick(" ", "") + strconv.Itoa(random.Intn(100))
				}
				holdLine(t, s, o, line)
			}
		}
	}
}
