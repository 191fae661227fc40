package reader

// kind is what a token may be for.
type kind int

const (
	end    kind = iota // the text is over
	number             // one or two digits
	powerU             // u, with or without a digit
	powerX             // x, with or without a digit
	name               // A to Z
	plus
	minus
	comma
	equals
	bar
	ampersand
	tilde
	opening // (
	closing // )
	leftBracket
	rightBracket
	other // a byte for which there is no place anywhere
)

// token is a piece of a text: the bytes from place up to behind.
type token struct {
	kind   kind
	place  int
	behind int
	value  int // of a number the number, of a power the power
}

// tokenAt is the first token of text from the byte at on, behind the spaces.
func tokenAt(text string, at int) token {
	for at < len(text) && text[at] == ' ' {
		at++
	}
	if at == len(text) {
		return token{kind: end, place: at, behind: at}
	}
	switch c := text[at]; {
	case isDigit(text, at):
		return numberAt(text, at)
	case c == 'u':
		return powerAt(text, at, powerU)
	case c == 'x':
		return powerAt(text, at, powerX)
	}
	return token{kind: kindOf(text[at]), place: at, behind: at + 1}
}

// kindOf is the kind of a token that is always just one byte.
func kindOf(c byte) kind {
	switch {
	case 'A' <= c && c <= 'Z':
		return name
	case c == '+':
		return plus
	case c == '-':
		return minus
	case c == ',':
		return comma
	case c == '=':
		return equals
	case c == '|':
		return bar
	case c == '&':
		return ampersand
	case c == '~':
		return tilde
	case c == '(':
		return opening
	case c == ')':
		return closing
	case c == '[':
		return leftBracket
	case c == ']':
		return rightBracket
	}
	return other
}

// numberAt stops behind two digits: a third one is left to be a token of its
// own, for which there is no place behind a number.
func numberAt(text string, at int) token {
	t := token{kind: number, place: at, behind: at + 1, value: digit(text, at)}
	if isDigit(text, t.behind) {
		t.value = 10*t.value + digit(text, t.behind)
		t.behind++
	}
	return t
}

func powerAt(text string, at int, k kind) token {
	t := token{kind: k, place: at, behind: at + 1, value: 1}
	if isDigit(text, t.behind) {
		t.value = digit(text, t.behind)
		t.behind++
	}
	return t
}

// wordEnd is the place behind the small letters that stand at place.
func wordEnd(text string, place int) int {
	for place < len(text) && 'a' <= text[place] && text[place] <= 'z' {
		place++
	}
	return place
}

func isDigit(text string, at int) bool {
	return at < len(text) && '0' <= text[at] && text[at] <= '9'
}

func digit(text string, at int) int {
	return int(text[at] - '0')
}
