package shell

import "strings"

// A form tells, with a blank between each two, what stands behind a command's first token: words in small letters and signs, which stand so, and places, as chapter 24 names them. Two more names: D is a DATA; I is a V that is an input. What has a `*` behind its name may be there any number of times.
const anyNumber = "*"

// place is a token, and the name of the place of a form in which it stands.
type place struct {
	name  string
	token string
}

// placed lays tokens in the places of a form; false: they have not that form.
func placed(form string, tokens []string) ([]place, bool) {
	var l []place
	for _, part := range strings.Fields(form) {
		name, many := strings.CutSuffix(part, anyNumber)
		n := 1
		if many {
			n = howMany(name, tokens)
		}
		if n > len(tokens) {
			return nil, false
		}
		for _, token := range tokens[:n] {
			if !mayStand(name, token) {
				return nil, false
			}
			l = append(l, place{name, token})
		}
		tokens = tokens[n:]
	}
	return l, len(tokens) == 0
}

// howMany tells how many tokens, from the first one on, may stand in a place.
func howMany(name string, tokens []string) int {
	n := 0
	for n < len(tokens) && mayStand(name, tokens[n]) {
		n++
	}
	return n
}

// mayStand tells whether a token is of the kind that may stand in a place.
func mayStand(name string, token string) bool {
	switch name {
	case "N", "A", "W":
		return kindOf(token) == aName
	case "G", "F", "K", "V", "I":
		return kindOf(token) == aNumber
	case "D":
		return kindOf(token) == someData
	}
	return token == name
}
