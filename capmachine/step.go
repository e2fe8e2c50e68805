package capmachine

import "paddock/api"

// ending is what a step panics with that is given up: by a fault, or because the run is over there. All that can end a step comes ahead of what it changes; so nothing has to be taken back.
type ending struct {
	end   api.End
	value uint64
	fault api.Fault
}

func fail(f api.Fault) { panic(ending{end: api.Faulted, fault: f}) }

// allow gives up the step, if there is a fault.
func allow(f api.Fault) {
	if f != api.NoFault {
		fail(f)
	}
}

// steps does at most so many steps, until the run is over.
func (m *Machine) steps(most int) {
	defer func() {
		switch r := recover().(type) {
		case nil:
		case ending:
			m.over = r
		default:
			// No step's end, but a mistake of the machine's own, which must not look like one.
			panic(r)
		}
	}()
	if m.over.end != api.Running {
		return
	}
	for range most {
		m.do(m.fetch())
	}
}

// fetch is the instruction at hand.
func (m *Machine) fetch() api.Inst {
	code := m.program.Comps[m.comp()].Code
	if m.at.pc >= len(code) {
		fail(api.FTarget)
	}
	return code[m.at.pc]
}

// comp is the compartment of the gate at hand.
func (m *Machine) comp() int { return m.program.Gates[m.at.gate].Comp }

// do does an instruction. Kinds of operations follow one another by their numbers.
func (m *Machine) do(i api.Inst) {
	switch op := i.Op; {
	case op <= api.SEQ:
		m.lay(i.A, m.reckoned(i))
	case op <= api.RET:
		m.steer(i)
	case op <= api.CUNSEAL:
		m.lay(i.A, capability(m.derived(i)))
	case op <= api.CSAME:
		m.lay(i.A, integer(m.asked(i)))
	case op <= api.SC:
		m.touch(i)
	default:
		m.guard(i)
	}
}

// next makes the instruction behind the one at hand be at hand.
func (m *Machine) next() { m.at.pc++ }

// lay lays in a register what an instruction answers, and goes on.
func (m *Machine) lay(reg int, v api.Value) {
	m.at.regs[reg] = v
	m.next()
}

// number is the integer in a register.
func (m *Machine) number(reg int) uint64 {
	v := m.at.regs[reg]
	if v.Tag {
		fail(api.FInt)
	}
	return v.N
}

// held is the capability in a register.
func (m *Machine) held(reg int) api.Cap {
	v := m.at.regs[reg]
	if !v.Tag {
		fail(api.FTag)
	}
	return v.C
}
