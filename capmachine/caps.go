package capmachine

import (
	"paddock/api"
	"paddock/capword"
)

// derived is the capability that CINC to CUNSEAL make.
func (m *Machine) derived(i api.Inst) api.Cap {
	c, f := m.made(i)
	allow(f)
	return c
}

func (m *Machine) made(i api.Inst) (api.Cap, api.Fault) {
	b := m.held(i.B)
	switch i.Op {
	case api.CINC:
		return capword.Inc(b, m.number(i.C))
	case api.CINCI:
		return capword.Inc(b, uint64(i.Imm))
	case api.CSETB:
		return capword.SetBounds(b, m.number(i.C))
	case api.CSETBI:
		return capword.SetBounds(b, uint64(i.Imm))
	case api.CANDP:
		return capword.AndPerm(b, api.Perms(i.Imm))
	case api.CSEAL:
		return capword.SealBy(b, m.held(i.C))
	}
	return capword.UnsealBy(b, m.held(i.C))
}

// asked is what CADDR to CSAME tell.
func (m *Machine) asked(i api.Inst) uint64 {
	switch v := m.at.regs[i.B]; i.Op {
	case api.CTAG:
		return told(v.Tag)
	case api.CSAME:
		return told(v.Tag && v == m.at.regs[i.C])
	}
	return part(i.Op, m.held(i.B))
}

// part is a capability's part for which CADDR to CSEALED ask.
func part(op api.Op, c api.Cap) uint64 {
	switch op {
	case api.CADDR:
		return c.Cursor
	case api.CBASE:
		return c.Base
	case api.CEND:
		return c.End
	case api.CPERM:
		return uint64(c.Perms)
	}
	return uint64(c.Seal)
}
