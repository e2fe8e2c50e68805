package checker

import (
	"paddock/api"
	"paddock/flow"
)

// firstMade is the first of the two registers that a row may lay capabilities in; those ahead of it are for integers, those behind the two for roots.
const firstMade = 6

// fewIntegers tells whether these are the types of integers alone, and so many as registers for them stand from r1 on.
func fewIntegers(types []api.Type) bool {
	for _, t := range types {
		if t.Cap {
			return false
		}
	}
	return len(types) < firstMade
}

// isStaticCode tells whether the code of a compartment is of the static part, row by row.
func isStaticCode(m api.Image, comp int) bool {
	c := m.Comps[comp]
	if !isEnd(c.Code[len(c.Code)-1].Op) {
		return false
	}
	for _, b := range flow.Blocks(c.Code, entriesOf(m, comp)...) {
		r := beginning(m, c.Roots)
		for _, i := range c.Code[b.First : b.Last+1] {
			if !r.takes(i) {
				return false
			}
		}
	}
	return true
}

// isEnd tells of an operation that it never goes on to the instruction behind it.
func isEnd(op api.Op) bool {
	return op == api.JMP || op == api.HALT || op == api.TRAP || op == api.RET
}

// entriesOf are the entries of a compartment's gates.
func entriesOf(m api.Image, comp int) []int {
	var entries []int
	for _, g := range m.Gates {
		if g.Comp == comp {
			entries = append(entries, g.Entry)
		}
	}
	return entries
}
