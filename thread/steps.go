package thread

import "paddock/api"

// step is an instruction made ready: it does it in a run, and tells what comes behind it.
type step func(*run) next

// next is what comes behind a step.
type next int

const (
	onward next = iota // the one behind it
	away               // the first one of the row that is at hand now
	over               // none: with this one the run is over, and nothing has changed
)

// stepsOf makes a code's steps, and that of the place behind it.
func stepsOf(code []api.FInst, numbers []int, results int) []step {
	steps := make([]step, 0, len(numbers))
	for pc, i := range code {
		steps = append(steps, stepOf(i, pc, numbers, results))
	}
	return append(steps, func(r *run) next { return r.fail(api.FTarget) })
}

// stepOf makes one of an instruction. Kinds of operations follow one another by their numbers.
func stepOf(i api.FInst, pc int, numbers []int, results int) step {
	switch op := i.Op; {
	case op <= api.FSEQ:
		return reckoning(i)
	case op <= api.FBGE:
		return jumping(i, numbers[i.Imm])
	case op == api.FCALL:
		return calling(int(i.Imm), numbers[pc+1])
	case op == api.FRET:
		return func(r *run) next { return r.ret(results) }
	case op <= api.FOUT:
		return passing(i)
	case op <= api.FSC:
		return touching(i)
	}
	return guarding(i)
}

// jumping is that of one which goes to the beginning of a row.
func jumping(i api.FInst, to int) step {
	a, b := i.A, i.B
	switch i.Op {
	case api.FBEQ:
		return func(r *run) next { return r.branch(r.regs[a] == r.regs[b], to) }
	case api.FBNE:
		return func(r *run) next { return r.branch(r.regs[a] != r.regs[b], to) }
	case api.FBLT:
		return func(r *run) next { return r.branch(r.regs[a] < r.regs[b], to) }
	case api.FBGE:
		return func(r *run) next { return r.branch(r.regs[a] >= r.regs[b], to) }
	}
	return func(r *run) next { return r.jump(to) }
}

// passing is that of one which takes in, puts out, or tells with what the run ends.
func passing(i api.FInst) step {
	a, imm := i.A, i.Imm
	switch i.Op {
	case api.FHALT:
		return func(r *run) next { return r.finish(api.Halted, r.regs[a]) }
	case api.FTRAP:
		return func(r *run) next { return r.finish(api.Trapped, imm) }
	case api.FIN:
		return func(r *run) next { return r.takeIn(a) }
	}
	return func(r *run) next { return r.putOut(r.regs[a]) }
}

// calling is that of a call of a gate, with the row that begins behind it.
func calling(gate, behind int) step {
	return func(r *run) next { return r.call(gate, behind) }
}

// guarding is that of a guard.
func guarding(i api.FInst) step {
	a, code, imm := i.A, uint64(i.C), i.Imm
	switch i.Op {
	case api.FGLT:
		return func(r *run) next { return r.demand(r.regs[a] < imm, code) }
	case api.FGGE:
		return func(r *run) next { return r.demand(r.regs[a] >= imm, code) }
	}
	return func(r *run) next { return r.demand(false, code) }
}
