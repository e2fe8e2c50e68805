package fastvm

import "paddock/api"

func (i inst) jmp(m *Machine) { m.at.pc = int(i.Imm) }

func (i inst) beq(m *Machine) { i.branch(m, m.a(i) == m.b(i)) }

func (i inst) bne(m *Machine) { i.branch(m, m.a(i) != m.b(i)) }

func (i inst) blt(m *Machine) { i.branch(m, m.a(i) < m.b(i)) }

func (i inst) bge(m *Machine) { i.branch(m, m.a(i) >= m.b(i)) }

func (i inst) branch(m *Machine, isTaken bool) {
	if isTaken {
		i.jmp(m)
		return
	}
	m.next()
}

func (i inst) halt(m *Machine) { m.finish(api.Halted, m.a(i)) }

func (i inst) trap(m *Machine) { m.finish(api.Trapped, i.Imm) }

// takeIn lays the next input in a register.
func (i inst) takeIn(m *Machine) {
	if len(m.inputs) == 0 {
		m.finish(api.Starved, 0)
		return
	}
	n := m.inputs[0]
	m.inputs = m.inputs[1:]
	m.lay(i.A, n)
}

func (i inst) putOut(m *Machine) {
	m.out = append(m.out, m.a(i))
	m.next()
}

func (i inst) guardBelow(m *Machine) { i.demand(m, m.a(i) < i.Imm) }

func (i inst) guardNotBelow(m *Machine) { i.demand(m, m.a(i) >= i.Imm) }

func (i inst) guard(m *Machine) { i.demand(m, false) }

// demand goes on where a guard holds.
func (i inst) demand(m *Machine, holds bool) {
	if !holds {
		m.finish(api.Guarded, uint64(i.C))
		return
	}
	m.next()
}
