package reader

// kind is what a token may be for.
type kind int

const (
	end    kind = iota // the text is over
	number             // one or two digits
	powerU             // u, with or without a digit
	powerX             // x, with or without a digit
	plus
	minus
	other // a byte that may stand nowhere in a polynomial
)

// token is a piece of a text: the bytes from place up to behind.
type token struct {
	kind   kind
	place  int
	behind int
	value  int // of a number the number, of a power the power
}

// tokenAt is the first token of text from the byte at on, behind the spaces.
func tokenAt(text string, at int) token {
	for at < len(text) && text[at] == ' ' {
		at++
	}
	if at == len(text) {
		return token{kind: end, place: at, behind: at}
	}
	switch c := text[at]; {
	case isDigit(text, at):
		return numberAt(text, at)
	case c == 'u':
		return powerAt(text, at, powerU)
	case c == 'x':
		return powerAt(text, at, powerX)
	case c == '+':
		return token{kind: plus, place: at, behind: at + 1}
	case c == '-':
		return token{kind: minus, place: at, behind: at + 1}
	}
	return token{kind: other, place: at, behind: at + 1}
}

// numberAt stops behind two digits: a third one is left to be a token of its
// own, for which there is no place behind a number.
func numberAt(text string, at int) token {
	t := token{kind: number, place: at, behind: at + 1, value: digit(text, at)}
	if isDigit(text, t.behind) {
		t.value = 10*t.value + digit(text, t.behind)
		t.behind++
	}
	return t
}

func powerAt(text string, at int, k kind) token {
	t := token{kind: k, place: at, behind: at + 1, value: 1}
	if isDigit(text, t.behind) {
		t.value = digit(text, t.behind)
		t.behind++
	}
	return t
}

func isDigit(text string, at int) bool {
	return at < len(text) && '0' <= text[at] && text[at] <= '9'
}

func digit(text string, at int) int {
	return int(text[at] - '0')
}
