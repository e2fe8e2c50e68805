package asm

import "strings"

// kind is what a token is.
type kind int

const (
	noToken kind = iota
	aName
	aLabel
	aNumber
	someData
	anArrow
	aDash
)

// How long a token may be.
const (
	maxName   = 16
	maxDigits = 20
	maxHex    = 16
)

const (
	digits    = "0123456789"
	hexDigits = digits + "abcdef"
	letters   = "abcdefghijklmnopqrstuvwxyzABCDEFGHIJKLMNOPQRSTUVWXYZ"
)

// token is a piece of a line. Its text has neither the `:` of a label nor the `#` of data.
type token struct {
	kind kind
	text string
}

// cut cuts a line into words, between which there are blanks; a remark is left out. A machine of two states does it: between words, and within one.
func cut(line string) []string {
	var words []string
	at := 0
between:
	for n, r := range line[at:] {
		if r == ';' {
			return words
		}
		if !blank(r) {
			at += n
			goto within
		}
	}
	return words
within:
	for n, r := range line[at:] {
		if r == ';' || blank(r) {
			words = append(words, line[at:at+n])
			at += n
			goto between
		}
	}
	return append(words, line[at:])
}

func blank(r rune) bool {
	return r == ' ' || r == '\t'
}

// tokens are a line's tokens; false: a word of it is none.
func tokens(line string) ([]token, bool) {
	var l []token
	for _, word := range cut(line) {
		t := tokenOf(word)
		if t.kind == noToken {
			return nil, false
		}
		l = append(l, t)
	}
	return l, true
}

func tokenOf(word string) token {
	if isName(word) {
		return token{aName, word}
	}
	if name, is := strings.CutSuffix(word, ":"); is && isName(name) {
		return token{aLabel, name}
	}
	if isNumber(word) {
		return token{aNumber, word}
	}
	if row, is := strings.CutPrefix(word, "#"); is && only(row, hexDigits) && len(row)%2 == 0 {
		return token{someData, row}
	}
	switch word {
	case "->":
		return token{anArrow, word}
	case "-":
		return token{aDash, word}
	}
	return token{}
}

func isName(s string) bool {
	return 1 <= len(s) && len(s) <= maxName && only(s[:1], letters) && only(s, letters+digits+"_")
}

func isNumber(s string) bool {
	if row, is := strings.CutPrefix(s, "0x"); is {
		return 1 <= len(row) && len(row) <= maxHex && only(row, hexDigits)
	}
	row := strings.TrimPrefix(s, "-")
	return 1 <= len(row) && len(row) <= maxDigits && only(row, digits)
}

// only tells whether a text has no other bytes than some.
func only(s string, some string) bool {
	return strings.Trim(s, some) == ""
}
