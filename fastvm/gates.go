package fastvm

import "paddock/api"

// firstArg is the register of the first argument, and of the first result.
const firstArg = 1

// frame is what is at hand, and what a call puts on the stack.
type frame struct {
	gate, pc int
	regs     [api.Regs]uint64
}

// entered is how a gate's code begins. The arguments stand in the place of what the roots say of their registers.
func entered(gates []api.FEntry, gate int, args []uint64) frame {
	g := gates[gate]
	f := frame{gate: gate, pc: g.Entry, regs: g.Roots}
	copy(f.regs[firstArg:], args)
	return f
}

// handed is the first registers, so many as go through a gate, one way or the other.
func (m *Machine) handed(count int) []uint64 { return m.at.regs[firstArg : firstArg+count] }

// call goes in by a gate.
func (i inst) call(m *Machine) {
	if len(m.stack) >= m.depth {
		m.finish(api.Overflow, 0)
		return
	}
	gate := int(i.Imm)
	inside := entered(m.gates, gate, m.handed(m.gates[gate].Args))
	m.next()
	m.stack = append(m.stack, m.at)
	m.at = inside
}

// ret goes back to where the gate at hand was called.
func (i inst) ret(m *Machine) {
	results := m.handed(m.gates[m.at.gate].Results)
	last := len(m.stack) - 1
	if last < 0 {
		m.finish(api.Halted, first(results))
		return
	}
	caller := m.stack[last]
	copy(caller.regs[firstArg:], results)
	m.stack = m.stack[:last]
	m.at = caller
}

// first is what a run tells that ends with these results.
func first(results []uint64) uint64 {
	if len(results) == 0 {
		return 0
	}
	return results[0]
}
