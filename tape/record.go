package tape

import (
	"slices"

	"paddock/api"
	"paddock/fastvm"
)

// isEntry tells whether a run can begin at a gate. Bare addresses know nothing of types, so that it is asked of the program ahead of them.
func isEntry(m api.Image, gate int) bool {
	if gate < 0 || gate >= len(m.Gates) {
		return false
	}
	return !slices.ContainsFunc(m.Gates[gate].Args, func(t api.Type) bool { return t.Cap })
}

// recorded is the tape of a run on bare addresses.
func recorded(p api.Program, gate int, args []uint64, inputs []uint64, fuel int) (*Tape, api.Errno) {
	// So many steps take no more inputs, and each machine that is kept keeps those that are left.
	inputs = inputs[:min(len(inputs), fuel)]
	m, e := fastvm.New(p, gate, args, inputs)
	if e != api.OK {
		return nil, e
	}
	t := &Tape{atHand: map[spot][]int{}, stores: map[uint64][]int{}}
	t.record(m, p.Code, fuel)
	return t, api.OK
}

// record does a run, and notes of each step what is asked of it later.
func (t *Tape) record(m *fastvm.Machine, code [][]api.FInst, fuel int) {
	t.keep(m)
	for goesOn := true; goesOn && t.steps < fuel; {
		s := m.Snap()
		t.noteAtHand(s)
		goesOn = m.Step().End == api.Running
		t.steps++
		// A step with which a run ends has stored nothing; and one behind which it goes on was there.
		if goesOn {
			t.noteStore(code[s.Gate][s.Pc], s.Regs)
		}
		t.keep(m)
	}
	// Without fuel the machine tells how the run is over, or that it is Spent.
	t.outcome = m.Run(0)
	if t.outcome.End == api.Spent {
		t.noteAtHand(m.Snap())
	}
}
