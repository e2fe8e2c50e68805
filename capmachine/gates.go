package capmachine

import (
	"paddock/api"
	"paddock/image"
)

// call goes in by a gate.
func (m *Machine) call(gate int) {
	args := m.handed(m.program.Gates[gate].Args)
	if len(m.stack) >= m.program.Depth {
		panic(ending{end: api.Overflow})
	}
	inside := entered(m.program, gate, args)
	m.next()
	m.stack = append(m.stack, m.at)
	m.at = inside
}

// giveBack goes back to where the gate at hand was called.
func (m *Machine) giveBack() {
	results := m.handed(m.program.Gates[m.at.gate].Results)
	last := len(m.stack) - 1
	if last < 0 {
		panic(ending{end: api.Halted, value: first(results)})
	}
	caller := m.stack[last]
	copy(caller.regs[firstArg:], results)
	m.stack = m.stack[:last]
	m.at = caller
}

// handed is what goes through a gate, one way or the other: the first registers, each of its type.
func (m *Machine) handed(types []api.Type) []api.Value {
	values := m.at.regs[firstArg : firstArg+len(types)]
	for k, t := range types {
		if !image.Fits(values[k], t) {
			fail(api.FGate)
		}
	}
	return values
}

// first is what a run tells that ends with these results.
func first(results []api.Value) uint64 {
	if len(results) == 0 {
		return 0
	}
	if r := results[0]; r.Tag {
		return r.C.Cursor
	}
	return results[0].N
}
