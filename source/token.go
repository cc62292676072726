// Package source: source texts: their tokens, their grammar, their names, and how they are written.
package source

import "redex/api"

// The kinds of tokens.
const (
	badToken    = iota // what can stand nowhere
	nameToken          // a name
	numberToken        // a number
	primToken          // + - * < ?
	equalsToken        // =
	endToken           // ;
	openToken          // (
	closeToken         // )
)

// token: its kind; the place of its first byte; its bytes.
type token struct {
	kind int
	at   int
	text string
}

// cutTokens: the tokens of a source text, in their order.
func cutTokens(src string) []token {
	var tokens []token
	at := 0
	for at < len(src) {
		end := at + 1
		for end < len(src) && goesOn(src[at], src[end]) {
			end++
		}
		if !isBlank(src[at]) {
			text := src[at:end]
			kind := tokenKind(text)
			tokens = append(tokens, token{kind: kind, at: at, text: text})
		}
		at = end
	}
	return tokens
}

// goesOn: whether a token that begins with the first byte goes on with the next one.
func goesOn(first byte, next byte) bool {
	if isLetter(first) {
		return isLetter(next) || isDigit(next)
	}
	return isDigit(first) && isDigit(next)
}

// tokenKind: the kind of the token with these bytes.
func tokenKind(text string) int {
	if text == "" {
		return badToken
	}
	if isLetter(text[0]) {
		return kindUpTo(nameToken, len(text), api.MaxName)
	}
	if isDigit(text[0]) {
		return kindUpTo(numberToken, len(text), api.MaxDigits)
	}
	switch text[0] {
	case '+', '-', '*', '<', '?':
		return primToken
	case '=':
		return equalsToken
	case ';':
		return endToken
	case '(':
		return openToken
	case ')':
		return closeToken
	}
	return badToken
}

// kindUpTo: the kind, or badToken for a token that is longer than it may be.
func kindUpTo(kind int, length int, most int) int {
	if length > most {
		return badToken
	}
	return kind
}

func isBlank(b byte) bool {
	return b == ' ' || b == '\n'
}

func isLetter(b byte) bool {
	return 'a' <= b && b <= 'z'
}

func isDigit(b byte) bool {
	return '0' <= b && b <= '9'
}
