package shell

import "strings"

// kind is what a token is.
type kind int

const (
	noToken kind = iota
	aName
	aNumber
	someData
	aSign
)

// How long a token may be.
const (
	maxName   = 16
	maxDigits = 20
)

const (
	digits    = "0123456789"
	hexDigits = digits + "abcdef"
	letters   = "abcdefghijklmnopqrstuvwxyzABCDEFGHIJKLMNOPQRSTUVWXYZ"
)

func kindOf(token string) kind {
	switch {
	case isName(token):
		return aName
	case len(token) <= maxDigits && only(token, digits):
		return aNumber
	case isData(token):
		return someData
	case token == ":" || token == "=":
		return aSign
	}
	return noToken
}

func isName(token string) bool {
	return len(token) <= maxName && only(token[:1], letters) && only(token, letters+digits+"_")
}

func isData(token string) bool {
	row, is := strings.CutPrefix(token, "#")
	return is && only(row, hexDigits) && len(row)%2 == 0
}

func isNone(token string) bool {
	return kindOf(token) == noToken
}

// only tells whether a text has no other bytes than some.
func only(s string, some string) bool {
	return strings.Trim(s, some) == ""
}
