package lang

import (
	"strconv"
	"strings"
)

// kind is what a token is.
type kind int

const (
	theEnd  kind = iota // of the text: behind the last token stands one of this kind
	aName               // a word that is no keyword
	aNumber             // n tells which one
	aMark               // a keyword or a sign: its text tells which one
)

const (
	maxWord    = 12
	numberBits = 31 // a number is at most 2147483647
)

const (
	letters = "abcdefghijklmnopqrstuvwxyz"
	digits  = "0123456789"
)

// The longer ones stand first, as they count where two could be.
var signs = [...]string{
	"==", "!=", "<=", ">=", "<<", ">>",
	"{", "}", "(", ")", "[", "]", ",", ":", "=", "+", "-", "*", "&", "|", "^", "!", "<", ">",
}

type token struct {
	kind kind
	text string
	n    int
	line int
}

// cut cuts a text into tokens. A machine of three states does it: between tokens, within a remark, and at a token.
func cut(source string) ([]token, error) {
	var tokens []token
	line, at := 1, 0
between:
	for n, r := range source[at:] {
		switch r {
		case '\n':
			line++
		case ' ', '\t':
		case '#':
			at += n
			goto remark
		default:
			at += n
			goto within
		}
	}
	return append(tokens, token{kind: theEnd, line: line}), nil
remark:
	for n, r := range source[at:] {
		if r == '\n' {
			at += n
			goto between
		}
	}
	return append(tokens, token{kind: theEnd, line: line}), nil
within:
	t, is := tokenAt(source[at:])
	if !is {
		return nil, &wrong{line: line, at: len(tokens), why: errLang}
	}
	t.line = line
	tokens = append(tokens, t)
	at += len(t.text)
	goto between
}

// tokenAt is the token with which a text begins; false, if there is none that may be.
func tokenAt(text string) (token, bool) {
	if word := rowOf(text, letters+digits+"_"); rowOf(text, letters) != "" {
		return wordOf(word), len(word) <= maxWord
	}
	if row := rowOf(text, digits); row != "" {
		n, err := strconv.ParseUint(row, 10, numberBits)
		return token{kind: aNumber, text: row, n: int(n)}, err == nil
	}
	for _, sign := range signs {
		if strings.HasPrefix(text, sign) {
			return token{kind: aMark, text: sign}, true
		}
	}
	return token{}, false
}

// rowOf is what a text has of some bytes at its beginning.
func rowOf(text string, some string) string {
	return text[:len(text)-len(strings.TrimLeft(text, some))]
}

func wordOf(word string) token {
	switch word {
	case "bytes", "words", "comp", "uses", "reads", "fn", "let", "if", "else", "while", "out", "need", "trap", "return", "in":
		return token{kind: aMark, text: word}
	}
	return token{kind: aName, text: word}
}
