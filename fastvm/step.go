package fastvm

import "paddock/api"

// ending is how a run is over. What ends it changes nothing else.
type ending struct {
	end   api.End
	value uint64
	fault api.Fault
}

func (m *Machine) finish(e api.End, value uint64) { m.over = ending{end: e, value: value} }

func (m *Machine) fail(f api.Fault) { m.over = ending{end: api.Faulted, fault: f} }

// steps does at most so many steps, until the run is over.
func (m *Machine) steps(most int) {
	for range most {
		if m.over.end != api.Running {
			return
		}
		m.do()
	}
}

// do does the instruction at hand.
func (m *Machine) do() {
	l := m.code[m.at.gate]
	if m.at.pc >= len(l) {
		m.fail(api.FTarget)
		return
	}
	l[m.at.pc](m)
}

// next makes the instruction behind the one at hand be at hand.
func (m *Machine) next() { m.at.pc++ }

// lay lays in a register what an instruction answers, and goes on.
func (m *Machine) lay(reg int, n uint64) {
	m.at.regs[reg] = n
	m.next()
}

// What an instruction's registers hold.
func (m *Machine) a(i inst) uint64 { return m.at.regs[i.A] }

func (m *Machine) b(i inst) uint64 { return m.at.regs[i.B] }

func (m *Machine) c(i inst) uint64 { return m.at.regs[i.C] }
