package segments

import (
	"math/rand"
	"strconv"
	"strings"
	"testing"

	"segments/api"
)

// A second reading of the document for sets: by a stack, where the program
// makes a tree, and with the set as the bits of a number.

// bits: a set; the bit 1<<v is there if the value v is.
type bits int

const everyBit bits = 1<<7 - 1

func answerOfSet(word string, set, second bits, number int) string {
	truth := map[bool]string{true: "yes", false: "no"}
	switch word {
	case "has":
		return truth[set>>(number%7)&1 == 1]
	case "sub":
		return truth[set&^second == 0]
	}
	answer := ""
	for value := range 7 {
		if set>>value&1 == 1 {
			answer += " " + strconv.Itoa(value)
		}
	}
	return strings.TrimPrefix(answer, " ")
}

// level: as much as is read of a set, the whole one or one in parentheses.
type level struct {
	done, part bits
	sign       byte // the one ahead of the next piece
	nots       int  // how many ~ are open ahead of it
}

// add: with a piece that is over.
func (l level) add(piece bits) level {
	if l.nots%2 == 1 {
		piece ^= everyBit
	}
	l.nots = 0
	switch l.sign {
	case '&':
		l.part &= piece
	case '-':
		l.part &^= piece
	default:
		l.done |= l.part
		l.part = piece
	}
	return l
}

func (s *oracleSession) set(name byte, line string, i int) (string, api.Errno, int) {
	levels := []level{{}}
	wanted := true // a piece is
	for i = nonSpace(line, i); i < len(line); i = nonSpace(line, i) {
		top, c := len(levels)-1, line[i]
		open := top
		for _, l := range levels {
			open += l.nots
		}
		switch {
		case wanted && (c == '~' || c == '(') && open == 6:
			return "", api.ErrDeep, i
		case wanted && c == '~':
			levels[top].nots++
		case wanted && c == '(':
			levels = append(levels, level{})
		case wanted && c == '[':
			inside, _, closed := strings.Cut(line[i+1:], "]")
			zeros, errno, place := oracleZeros(inside)
			if errno != api.OK {
				return "", errno, i + 1 + place
			}
			if !closed {
				return "", api.ErrForm, len(line)
			}
			levels[top], wanted = levels[top].add(zeros), false
			i += 1 + len(inside)
		case wanted && 'A' <= c && c <= 'Z':
			set, ok := s.sets[c]
			if !ok {
				return "", api.ErrName, i
			}
			levels[top], wanted = levels[top].add(set), false
		case !wanted && (c == '|' || c == '&' || c == '-'):
			levels[top].sign, wanted = c, true
		case !wanted && c == ')' && top > 0:
			over := levels[top]
			levels = levels[:top]
			levels[top-1] = levels[top-1].add(over.done | over.part)
		default:
			return "", api.ErrForm, i
		}
		i++
	}
	if wanted || len(levels) > 1 {
		return "", api.ErrForm, len(line)
	}
	delete(s.systems, name)
	s.sets[name] = levels[0].done | levels[0].part
	return "", api.OK, 0
}

// oracleZeros: of a text in brackets; an x in it is wrong wherever the text is
// right up to it.
func oracleZeros(text string) (bits, api.Errno, int) {
	terms, errno, place := oracle(text)
	if x := strings.IndexByte(text, 'x'); x >= 0 && (errno == api.OK || x <= place) {
		return 0, api.ErrParam, x
	}
	var zeros bits
	for u := range 7 {
		if oracleValue(terms, u, 0) == 0 {
			zeros |= 1 << u
		}
	}
	return zeros, errno, place
}

// holdSet: the line that gives S this set, and then what S means.
func holdSet(t *testing.T, s *Session, o *oracleSession, text string) {
	t.Helper()
	holdLine(t, s, o, "set S="+text)
	holdLine(t, s, o, "show S")
}

func newSetPair(t *testing.T) (*Session, *oracleSession) {
	t.Helper()
	s, o := newPair()
	for _, line := range []string{"let A=x", "set P=[u2-u]", "set Q=[u-1]|[u-2]", "set S=[u-3]"} {
		holdLine(t, s, o, line)
	}
	return s, o
}

func TestAllShortSets(t *testing.T) { // P1, P5, P10
	s, o := newSetPair(t)
	var grow func(text string, pieces []string, more int)
	grow = func(text string, pieces []string, more int) {
		holdSet(t, s, o, text)
		if more == 0 {
			return
		}
		for _, p := range pieces {
			grow(text+p, pieces, more-1)
		}
	}
	signs := []string{"P", "Q", "[u-2]", "|", "&", "-", "~", "(", ")"}
	grow("", signs, 5)
	for _, begin := range []string{"~~~~", "((((", "~(~(", "(P-~(", "((~~~~P)|", "~(~(~(P)-", "(((~(~P&Q"} {
		grow(begin, signs, 4)
	}
	others := []string{"[", "]", "u", "u4", "x", "x9", "2", "-", "+", ",", "=", "A", "B", "P", " ", "?"}
	grow("", others, 3)
	for _, begin := range []string{"[", "[u", "[u2u4", "[u6+", "P|[", "~[u]"} {
		grow(begin, others, 3)
	}
}

func TestAllShortAsks(t *testing.T) { // P1, P5, P10
	s, o := newSetPair(t)
	pieces := []string{"A", "B", "P", "Q", "S", " ", "0", "13", "u", "=", "?"}
	for _, word := range []string{"show", "has", "sub", "set", "print", "show ", "has ", " sub  "} {
		for _, a := range append(pieces, "") {
			for _, b := range append(pieces, "") {
				for _, c := range append(pieces, "") {
					holdLine(t, s, o, word+a+b+c)
				}
			}
		}
	}
}

func TestAllBytesInSets(t *testing.T) { // P1, P5, P10
	s, o := newSetPair(t)
	for c := range 256 {
		b := string([]byte{byte(c)})
		for _, text := range []string{b, "P" + b, "P" + b + "Q", "P|" + b, "P&" + b, "P-" + b, "~" + b, "(" + b, "(P" + b, "(P)" + b, "[" + b, "[" + b + "]", "[u" + b, "[u" + b + "]", "[u]" + b, "((((((" + b, "((((((P" + b, "~~~~~~" + b} {
			holdSet(t, s, o, text)
		}
		for _, line := range []string{"set" + b, "set " + b + "=P", "set S" + b, "set S" + b + "P", "show" + b, "show " + b, "show P" + b, "has P" + b, "has P " + b, "has P 1" + b, "has P 12" + b, "sub" + b, "sub P" + b, "sub P Q" + b} {
			holdLine(t, s, o, line)
		}
	}
}

// randomSet: most of them right.
func randomSet(random *rand.Rand, more int) string {
	pick := func(pieces ...string) string { return pieces[random.Intn(len(pieces))] }
	piece := func() string {
		switch kind := random.Intn(6); {
		case kind == 0:
			return pick("~", "~ ", "~~") + randomSet(random, 0)
		case kind == 1 && more > 0:
			return pick("(", "( ", "~(") + randomSet(random, more-1) + pick(")", " )")
		case kind < 4:
			return pick("[u]", "[u-1]", "[u2-2]", "[ u3 - 1]", "[u6-1]", "[0]", "[1]", "[u2u+6]", "[3u5+2u-5]")
		}
		return pick("P", "Q", "R", "S", "T")
	}
	text := piece()
	for range random.Intn(4) {
		text += pick("|", "&", "-", " | ", " & ", " - ") + piece()
	}
	return text
}

func TestManySets(t *testing.T) { // P1, P2, P10
	random := rand.New(rand.NewSource(3)) // always the same sets
	pick := func(pieces ...string) string { return pieces[random.Intn(len(pieces))] }
	name := func() string { return pick("P", "Q", "R", "S", "T") }
	for range 200 {
		s, o := newSetPair(t)
		for range 100 {
			line := pick("set ", "set", " set ") + name() + pick("=", " = ") + randomSet(random, 4)
			holdLine(t, s, o, line)
			at := random.Intn(len(line))
			holdLine(t, s, o, line[:at]+pick("~", "(", ")", "[u]", "x", "u", "5", "|", "-", "P", "A", " ", "?", "\xff")+line[at:])
			if random.Intn(20) == 0 {
				holdLine(t, s, o, "let "+name()+"= u x-1")
			}
			for _, ask := range []string{"show " + name(), "has " + name() + strconv.Itoa(random.Intn(100)), "sub " + name() + name(), "print " + name(), "show " + name() + name()} {
				holdLine(t, s, o, ask)
			}
		}
	}
}
