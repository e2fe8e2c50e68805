package thread

import "paddock/api"

// firstArg is the register of the first argument, and of the first result.
const firstArg = 1

// frame is what is at hand, and what a call puts on the stack.
type frame struct {
	gate, row int
	regs      [api.Regs]uint64
}

// entered is how a gate's code begins. The arguments stand in the place of what the roots say of their registers.
func (c *Code) entered(gate int, args []uint64) frame {
	g := &c.gates[gate]
	f := frame{gate: gate, row: g.entry, regs: g.roots}
	copy(f.regs[firstArg:], args)
	return f
}

// handed is the first registers, so many as go through a gate, one way or the other.
func (f *frame) handed(count int) []uint64 { return f.regs[firstArg : firstArg+count] }

// call goes in by a gate; the row that is behind is come back to.
func (r *run) call(gate, behind int) next {
	if len(r.stack) >= r.code.depth {
		return r.finish(api.Overflow, 0)
	}
	inside := r.code.entered(gate, r.handed(r.code.gates[gate].args))
	r.row = behind
	r.stack = append(r.stack, r.frame)
	r.frame = inside
	return away
}

// ret goes back to where the gate at hand was called, with so many results.
func (r *run) ret(results int) next {
	l := r.handed(results)
	last := len(r.stack) - 1
	if last < 0 {
		return r.finish(api.Halted, first(l))
	}
	caller := r.stack[last]
	copy(caller.regs[firstArg:], l)
	r.stack = r.stack[:last]
	r.frame = caller
	return away
}

// first is what a run tells that ends with these results.
func first(results []uint64) uint64 {
	if len(results) == 0 {
		return 0
	}
	return results[0]
}
