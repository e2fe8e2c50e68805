package bound

import (
	"paddock/api"
	"paddock/flow"
)

// A tally counts what the instructions of a code take. The place behind the code counts as one of them: a run that overruns does one step there, in which it faults.
type tally struct {
	code  []api.Inst
	costs []api.Cost // of each gate that is called
}

func (t tally) steps(pc int) uint64 {
	return 1 + t.calledAt(pc).Steps
}

func (t tally) inputs(pc int) uint64 {
	if pc < len(t.code) && t.code[pc].Op == api.IN {
		return 1
	}
	return t.calledAt(pc).Inputs
}

// calledAt is what the gate takes that is called at an instruction: nothing, if there is none.
func (t tally) calledAt(pc int) api.Cost {
	if pc < len(t.code) && t.code[pc].Op == api.CALL {
		return t.costs[t.code[pc].Imm]
	}
	return api.Cost{}
}

// most is the greatest sum of what is counted over the ways from an instruction on; false, if one comes to a round. There are at most MaxCode instructions, and MaxBound is the most that a call counts: no sum goes round.
func (t tally) most(entry int, counted func(tally, int) uint64) (uint64, bool) {
	ask := remembering(func(pc int, ask question[uint64]) (uint64, bool) {
		rest := uint64(0)
		for _, next := range t.next(pc) {
			n, known := ask(next)
			if !known {
				return 0, false
			}
			rest = max(rest, n)
		}
		return counted(t, pc) + rest, true
	})
	return ask(entry)
}

func (t tally) next(pc int) []int {
	l := flow.Next(t.code, pc)
	if t.overruns(pc) {
		l = append(l, len(t.code))
	}
	return l
}

func (t tally) overruns(pc int) bool {
	if pc != len(t.code)-1 {
		return false
	}
	switch t.code[pc].Op {
	case api.JMP, api.JC, api.HALT, api.TRAP, api.RET:
		return false
	}
	return true
}
