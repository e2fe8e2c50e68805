package capmachine

import "paddock/api"

// reckoned is what LI to SEQ answer.
func (m *Machine) reckoned(i api.Inst) api.Value {
	switch i.Op {
	case api.LI:
		return integer(uint64(i.Imm))
	case api.MOV:
		return m.at.regs[i.B]
	case api.ADDI:
		return integer(m.number(i.B) + uint64(i.Imm))
	}
	return integer(ofTwo(i.Op, m.number(i.B), m.number(i.C)))
}

// ofTwo is what comes of two numbers.
func ofTwo(op api.Op, b uint64, c uint64) uint64 {
	switch op {
	case api.ADD:
		return b + c
	case api.SUB:
		return b - c
	case api.MUL:
		return b * c
	case api.AND:
		return b & c
	case api.OR:
		return b | c
	case api.XOR:
		return b ^ c
	case api.SHL:
		return b << (c % 64)
	case api.SHR:
		return b >> (c % 64)
	case api.SLT:
		return told(b < c)
	}
	return told(b == c)
}

// told is an answer as a number.
func told(yes bool) uint64 {
	if yes {
		return 1
	}
	return 0
}
