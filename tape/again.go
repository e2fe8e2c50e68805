package tape

import "paddock/fastvm"

// keepEvery is how many steps lie between two machines that are kept. (To copy one takes as long as some thousands of steps, and each of them holds all that was put out and touched by then: it would be no use to keep many more.)
const keepEvery = 4096

// keep keeps a copy of a machine, if it is time to.
func (t *Tape) keep(m *fastvm.Machine) {
	if t.steps%keepEvery == 0 {
		t.kept = append(t.kept, m.Copy())
	}
}

// has tells whether there is a place behind so many steps.
func (t *Tape) has(step int) bool { return t != nil && step >= 0 && step <= t.steps }

// behind is a machine that stands behind so many steps: from the last one on that was kept ahead of there, all is done again.
func (t *Tape) behind(step int) *fastvm.Machine {
	m := t.kept[step/keepEvery].Copy()
	again := m.Step
	for range step % keepEvery {
		again()
	}
	return m
}
