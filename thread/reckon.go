package thread

import "paddock/api"

// bits is how many bits a number has: how far a shift goes is meant modulo this.
const bits = 64

// reckoning is the step of an instruction which lays a number in a register, or does nothing.
func reckoning(i api.FInst) step {
	a, b, imm := i.A, i.B, i.Imm
	switch i.Op {
	case api.FNop:
		return func(*run) next { return onward }
	case api.FLI:
		return func(r *run) next { return r.lay(a, imm) }
	case api.FMOV:
		return func(r *run) next { return r.lay(a, r.regs[b]) }
	case api.FADDI:
		return func(r *run) next { return r.lay(a, r.regs[b]+imm) }
	}
	return reckoningTwo(i)
}

// reckoningTwo is that of one which reckons with two registers.
func reckoningTwo(i api.FInst) step {
	a, b, c := i.A, i.B, i.C
	switch i.Op {
	case api.FADD:
		return func(r *run) next { return r.lay(a, r.regs[b]+r.regs[c]) }
	case api.FSUB:
		return func(r *run) next { return r.lay(a, r.regs[b]-r.regs[c]) }
	case api.FMUL:
		return func(r *run) next { return r.lay(a, r.regs[b]*r.regs[c]) }
	case api.FAND:
		return func(r *run) next { return r.lay(a, r.regs[b]&r.regs[c]) }
	case api.FOR:
		return func(r *run) next { return r.lay(a, r.regs[b]|r.regs[c]) }
	case api.FXOR:
		return func(r *run) next { return r.lay(a, r.regs[b]^r.regs[c]) }
	case api.FSHL:
		return func(r *run) next { return r.lay(a, r.regs[b]<<(r.regs[c]%bits)) }
	case api.FSHR:
		return func(r *run) next { return r.lay(a, r.regs[b]>>(r.regs[c]%bits)) }
	case api.FSLT:
		return func(r *run) next { return r.lay(a, told(r.regs[b] < r.regs[c])) }
	}
	return func(r *run) next { return r.lay(a, told(r.regs[b] == r.regs[c])) }
}

// told is an answer as a number.
func told(yes bool) uint64 {
	if yes {
		return 1
	}
	return 0
}
