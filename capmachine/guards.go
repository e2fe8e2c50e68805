package capmachine

import (
	"paddock/api"
	"paddock/capword"
)

// guard does GLT to GSEAL.
func (m *Machine) guard(i api.Inst) {
	if !m.holds(i) {
		panic(ending{end: api.Guarded, value: uint64(i.C)})
	}
	m.next()
}

// holds tells whether what a guard asks for is so.
func (m *Machine) holds(i api.Inst) bool {
	switch i.Op {
	case api.GLT:
		return m.number(i.A) < uint64(i.Imm)
	case api.GGE:
		return m.number(i.A) >= uint64(i.Imm)
	case api.GTAG:
		return m.at.regs[i.A].Tag
	case api.GIN:
		return capword.Access(m.held(i.A), 0, uint64(i.Imm), 0) == api.NoFault
	case api.GPERM:
		return api.Perms(i.Imm)&^m.held(i.A).Perms == 0
	}
	return m.held(i.A).Seal == i.Imm
}
