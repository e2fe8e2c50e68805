package capmachine

import (
	"slices"

	"paddock/api"
)

// firstArg is the register of the first argument, and of the first result.
const firstArg = 1

// frame is what is at hand, and what a call puts on the stack.
type frame struct {
	gate, pc int
	regs     [api.Regs]api.Value
}

// entered is how a gate's code begins.
func entered(program api.Image, gate int, args []api.Value) frame {
	g := program.Gates[gate]
	f := frame{gate: gate, pc: g.Entry}
	copy(f.regs[firstArg:], args)
	for _, r := range program.Comps[g.Comp].Roots {
		f.regs[r.Reg] = capability(r.Cap)
	}
	return f
}

// isEntry tells whether a run can begin at a gate: who begins it has no capabilities to hand in.
func isEntry(program api.Image, gate int) bool {
	if gate < 0 || gate >= len(program.Gates) {
		return false
	}
	return !slices.ContainsFunc(program.Gates[gate].Args, func(t api.Type) bool { return t.Cap })
}

func integer(n uint64) api.Value { return api.Value{N: n} }

func capability(c api.Cap) api.Value { return api.Value{Tag: true, C: c} }

func integers(l []uint64) []api.Value {
	values := make([]api.Value, len(l))
	for k, n := range l {
		values[k] = integer(n)
	}
	return values
}
