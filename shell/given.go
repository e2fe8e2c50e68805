package shell

import (
	"slices"
	"strconv"

	"paddock/api"
)

// given is what a command is given.
type given struct {
	word             string       // its first token
	name             string       // the first NAME behind it
	programs         []api.Module // A and B
	other            string       // W
	gate, fuel, step int          // G, F, K
	args, inputs     []uint64     // V
	text             string       // that of its block, or the bytes of its DATA
}

// image is the program of which a command asks that names no other one.
func (g given) image() api.Image {
	return g.programs[0].Image
}

// read finds out what a command is given, or the first error that it has.
func (s *shell) read(o order) (given, api.Errno) {
	if o.open {
		return given{}, api.ErrForm
	}
	if slices.ContainsFunc(o.tokens, isNone) {
		return given{}, api.ErrToken
	}
	c, is := s.commands[o.tokens[0]]
	places, fits := placed(c.form, o.tokens[1:])
	if !is || !fits {
		return given{}, api.ErrForm
	}
	g := given{word: o.tokens[0], name: places[0].token, text: o.text}
	first := api.OK
	for _, p := range places {
		// A NUMBER that is too great counts ahead of all names, wherever it stands.
		if e := s.take(&g, p); first == api.OK || e == api.ErrNumber {
			first = e
		}
	}
	return g, first
}

// take lays what stands in a place where it belongs.
func (s *shell) take(g *given, p place) api.Errno {
	switch p.name {
	case "A":
		return s.takeProgram(g, p.token)
	case "W":
		g.other = p.token
	case "D":
		g.text = bytesOf(p.token)
	case "G":
		return takeSmall(&g.gate, p.token)
	case "F":
		return takeSmall(&g.fuel, p.token)
	case "K":
		return takeSmall(&g.step, p.token)
	case "V":
		return takeGreat(&g.args, p.token)
	case "I":
		return takeGreat(&g.inputs, p.token)
	}
	return api.OK
}

func (s *shell) takeProgram(g *given, name string) api.Errno {
	m, is := s.atHand[name]
	if !is {
		return api.ErrName
	}
	g.programs = append(g.programs, m)
	return api.OK
}

// takeSmall takes a NUMBER of 31 bits.
func takeSmall(to *int, number string) api.Errno {
	n, err := strconv.ParseUint(number, 10, 31)
	if err != nil {
		return api.ErrNumber
	}
	*to = int(n)
	return api.OK
}

// takeGreat takes one of 64.
func takeGreat(to *[]uint64, number string) api.Errno {
	n, err := strconv.ParseUint(number, 10, 64)
	if err != nil {
		return api.ErrNumber
	}
	*to = append(*to, n)
	return api.OK
}

// bytesOf are the bytes that a DATA tells by two digits each.
func bytesOf(data string) string {
	row := data[1:]
	b := make([]byte, len(row)/2)
	for k := range b {
		n, _ := strconv.ParseUint(row[2*k:2*k+2], 16, 8)
		b[k] = byte(n)
	}
	return string(b)
}
