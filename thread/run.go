package thread

import (
	"paddock/api"
	"paddock/tagmem"
)

// run is all that changes while a program runs.
type run struct {
	frame
	code    *Code
	memory  *tagmem.Flat
	stack   []frame
	inputs  []uint64 // those that are left
	out     []uint64
	touches []api.Touch
	outcome api.Outcome // nothing, while it is not over; its place is told last
}

// toItsEnd does steps, row by row, but no more than there is fuel for, and tells how the run is over.
func (r *run) toItsEnd(fuel int) api.Outcome {
	for {
		w := &r.code.gates[r.gate].rows[r.row]
		done, then := r.do(w.steps[:min(fuel, len(w.steps))])
		if then == onward && done < len(w.steps) {
			then = r.finish(api.Spent, 0)
		}
		switch then {
		case over:
			r.outcome.Gate, r.outcome.Pc = r.gate, w.first+done
			return r.outcome
		case onward:
			r.row++
		}
		fuel -= done
	}
}

// do calls steps in turn, as long as the one behind comes next: how many were done, and what comes then.
func (r *run) do(steps []step) (int, next) {
	for k, does := range steps {
		switch does(r) {
		case away:
			return k + 1, away
		case over:
			return k, over
		}
	}
	return len(steps), onward
}

func (r *run) finish(e api.End, value uint64) next {
	r.outcome = api.Outcome{End: e, Value: value}
	return over
}

func (r *run) fail(f api.Fault) next {
	r.outcome = api.Outcome{End: api.Faulted, Fault: f}
	return over
}

// lay lays in a register what an instruction answers.
func (r *run) lay(reg int, n uint64) next {
	r.regs[reg] = n
	return onward
}

// jump makes a row be at hand.
func (r *run) jump(row int) next {
	r.row = row
	return away
}

func (r *run) branch(isTaken bool, row int) next {
	if isTaken {
		return r.jump(row)
	}
	return onward
}

// demand goes on where a guard holds.
func (r *run) demand(holds bool, code uint64) next {
	if !holds {
		return r.finish(api.Guarded, code)
	}
	return onward
}

// takeIn lays the next input in a register.
func (r *run) takeIn(reg int) next {
	if len(r.inputs) == 0 {
		return r.finish(api.Starved, 0)
	}
	n := r.inputs[0]
	r.inputs = r.inputs[1:]
	return r.lay(reg, n)
}

func (r *run) putOut(n uint64) next {
	r.out = append(r.out, n)
	return onward
}
