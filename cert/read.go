package cert

import (
	"strings"

	"paddock/api"
	"paddock/image"
	"paddock/regtype"
)

// reader reads a certificate from its beginning on.
type reader struct {
	rest    string
	isWrong bool
}

// read is what bytes say as a table, which is Live where they say something; false, if they are no certificate for this program.
func read(m api.Image, cert string) (api.Table, bool) {
	rest, begins := strings.CutPrefix(cert, magic)
	if !begins || len(cert) > api.MaxCert || image.Right(m) != api.OK {
		return nil, false
	}
	r := &reader{rest: rest}
	if int(take[uint8](r)) != len(m.Gates) {
		return nil, false
	}
	t := make(api.Table, len(m.Gates))
	for gate := range len(m.Gates) {
		t[gate] = r.row(len(m.Comps[m.Gates[gate].Comp].Code))
	}
	return t, !r.isWrong && r.rest == ""
}

// row reads the states of a gate whose compartment has so many instructions. It stops where something is wrong, as a count can tell of far more than there is.
func (r *reader) row(size int) []api.State {
	row := make([]api.State, size)
	least := 0
	for range take[uint16](r) {
		pc := int(take[uint16](r))
		if r.isWrong || pc < least || pc >= size {
			r.isWrong = true
			break
		}
		row[pc] = r.state()
		least = pc + 1
	}
	return row
}

func (r *reader) state() api.State {
	s := api.State{Live: true}
	for k := range s.Regs {
		s.Regs[k] = r.known()
	}
	return s
}

func (r *reader) known() api.RType {
	x := api.RType{Kind: api.RKind(take[uint8](r))}
	switch x.Kind {
	case api.AnInt:
		x.N = r.span()
	case api.ACap:
		x.Base, x.End, x.Point = r.span(), r.span(), r.span()
		x.Must, x.May = take[api.Perms](r), take[api.Perms](r)
		x.Seal = int(take[uint8](r)) - 1
	}
	// Of what is not rightly built, other kinds too, chapter 9 knows nothing.
	if regtype.Join(x, x) != x {
		r.isWrong = true
	}
	return x
}

func (r *reader) span() api.Span {
	return api.Span{Lo: take[uint64](r), Hi: take[uint64](r)}
}
