package capmachine

import (
	"paddock/api"
	"paddock/capword"
	"paddock/image"
)

// steer does JMP to RET: what goes elsewhere, ends the run, takes in or puts out.
func (m *Machine) steer(i api.Inst) {
	switch i.Op {
	case api.JMP:
		m.at.pc = i.Imm
	case api.BEQ, api.BNE, api.BLT, api.BGE:
		m.branch(i)
	case api.CPC:
		m.lay(i.A, capability(m.codeCap(i.Imm)))
	case api.JC:
		m.at.pc = m.target(m.held(i.A))
	case api.HALT:
		panic(ending{end: api.Halted, value: m.number(i.A)})
	case api.TRAP:
		panic(ending{end: api.Trapped, value: uint64(i.Imm)})
	case api.IN:
		m.takeIn(i.A)
	case api.OUT:
		m.out = append(m.out, m.number(i.A))
		m.next()
	case api.CALL:
		m.call(i.Imm)
	case api.RET:
		m.giveBack()
	}
}

func (m *Machine) branch(i api.Inst) {
	if branches(i.Op, m.number(i.A), m.number(i.B)) {
		m.at.pc = i.Imm
		return
	}
	m.next()
}

// branches tells whether a branch is taken.
func branches(op api.Op, a uint64, b uint64) bool {
	switch op {
	case api.BEQ:
		return a == b
	case api.BNE:
		return a != b
	case api.BLT:
		return a < b
	}
	return a >= b
}

// codeCap is the capability of an instruction of this compartment, which is there.
func (m *Machine) codeCap(pc int) api.Cap {
	c, _ := image.CodeCap(m.program, m.comp(), pc)
	return c
}

// target is the instruction of this compartment to which a capability points.
func (m *Machine) target(c api.Cap) int {
	allow(capword.Access(c, 0, api.Width, api.Exec))
	code := m.codeCap(0)
	// What is ahead of the code goes round, and is as far behind it as can be.
	off := c.Cursor - code.Base
	if off >= code.End-code.Base || off%api.Width != 0 {
		fail(api.FTarget)
	}
	return int(off / api.Width)
}

// takeIn lays the next input in a register.
func (m *Machine) takeIn(reg int) {
	if len(m.inputs) == 0 {
		panic(ending{end: api.Starved})
	}
	n := m.inputs[0]
	m.inputs = m.inputs[1:]
	m.lay(reg, integer(n))
}
