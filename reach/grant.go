package reach

import (
	"paddock/api"
	"paddock/image"
)

// handedTo are the capabilities that a compartment of a right program has of others: as it begins, by calls of its gates, and back from calls of its own.
func handedTo(m api.Image, comp int) []api.Cap {
	c := m.Comps[comp]
	code, _ := image.CodeCap(m, comp, 0)
	l := []api.Cap{code}
	for _, r := range c.Roots {
		l = append(l, r.Cap)
	}
	for _, g := range m.Gates {
		if g.Comp == comp {
			l = appendTypes(l, g.Args)
		}
	}
	for _, i := range c.Code {
		if i.Op == api.CALL {
			l = appendTypes(l, m.Gates[i.Imm].Results)
		}
	}
	return l
}

// appendTypes lays behind a list what types of capabilities stand for.
func appendTypes(l []api.Cap, types []api.Type) []api.Cap {
	for _, t := range types {
		if t.Cap {
			l = append(l, lowest(t))
		}
	}
	return l
}
