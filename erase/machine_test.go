package erase_test

import "paddock/api"

// machine is one of bare addresses, in the plainest way: it has numbers alone.
type machine struct {
	p       api.Program
	at      api.FSnap
	stack   []api.FSnap
	inputs  []uint64
	out     []uint64
	touches []api.Touch
	bytes   [api.MaxMem]byte
	over    api.Outcome
}

func newMachine(p api.Program, gate int, args []uint64, inputs []uint64) *machine {
	x := &machine{p: p, inputs: inputs}
	copy(x.bytes[:], p.Memory)
	copy(x.at.Regs[1:], args)
	x.enter(gate)
	return x
}

// enter keeps a gate's arguments alone of the registers.
func (x *machine) enter(gate int) {
	g := x.p.Gates[gate]
	for k := range x.at.Regs {
		if k == 0 || k > g.Args {
			x.at.Regs[k] = g.Roots[k]
		}
	}
	x.at.Gate, x.at.Pc = gate, g.Entry
}

// step does one step, and answers as the first machine does.
func (x *machine) step() api.Outcome {
	if code := x.p.Code[x.at.Gate]; x.at.Pc >= len(code) {
		x.over = x.faults(api.FTarget)
	} else if x.over.End == api.Running {
		x.over = x.does(code[x.at.Pc])
	}
	if x.over.End == api.Running {
		return api.Outcome{Gate: x.at.Gate, Pc: x.at.Pc}
	}
	return x.over
}

func (x *machine) ends(end api.End, value uint64) api.Outcome {
	return api.Outcome{End: end, Value: value, Gate: x.at.Gate, Pc: x.at.Pc}
}

func (x *machine) faults(f api.Fault) api.Outcome {
	return api.Outcome{End: api.Faulted, Fault: f, Gate: x.at.Gate, Pc: x.at.Pc}
}

func (x *machine) goes(pc int) api.Outcome {
	x.at.Pc = pc
	return api.Outcome{}
}

func (x *machine) on() api.Outcome { return x.goes(x.at.Pc + 1) }

func (x *machine) answer(i api.FInst, n uint64) api.Outcome {
	x.at.Regs[i.A] = n
	return x.on()
}

func (x *machine) does(i api.FInst) api.Outcome {
	// Of a guard C is a code, and no register.
	a, b, c := x.at.Regs[i.A], x.at.Regs[i.B], x.at.Regs[i.C%16]
	switch i.Op {
	case api.FNop:
		return x.on()
	case api.FLI:
		return x.answer(i, i.Imm)
	case api.FMOV:
		return x.answer(i, b)
	case api.FADD, api.FSUB, api.FMUL, api.FAND, api.FOR, api.FXOR, api.FSHL, api.FSHR, api.FSLT, api.FSEQ:
		return x.answer(i, reckoned(i.Op, b, c))
	case api.FADDI:
		return x.answer(i, b+i.Imm)
	case api.FJMP, api.FBEQ, api.FBNE, api.FBLT, api.FBGE:
		if map[api.FOp]bool{api.FJMP: true, api.FBEQ: a == b, api.FBNE: a != b, api.FBLT: a < b, api.FBGE: a >= b}[i.Op] {
			return x.goes(int(i.Imm))
		}
		return x.on()
	case api.FHALT:
		return x.ends(api.Halted, a)
	case api.FTRAP:
		return x.ends(api.Trapped, i.Imm)
	case api.FIN:
		if len(x.inputs) == 0 {
			return x.ends(api.Starved, 0)
		}
		n := x.inputs[0]
		x.inputs = x.inputs[1:]
		return x.answer(i, n)
	case api.FOUT:
		x.out = append(x.out, a)
		return x.on()
	case api.FCALL:
		return x.calls(int(i.Imm))
	case api.FRET:
		return x.returns()
	case api.FGLT, api.FGGE, api.FGUARD:
		if i.Op == api.FGLT && a < i.Imm || i.Op == api.FGGE && a >= i.Imm {
			return x.on()
		}
		return x.ends(api.Guarded, uint64(i.C))
	}
	return x.uses(i, a, b+i.Imm)
}

func reckoned(op api.FOp, b uint64, c uint64) uint64 {
	flag := map[bool]uint64{true: 1}
	return map[api.FOp]uint64{
		api.FADD: b + c, api.FSUB: b - c, api.FMUL: b * c, api.FAND: b & c, api.FOR: b | c, api.FXOR: b ^ c,
		api.FSHL: b << (c % 64), api.FSHR: b >> (c % 64), api.FSLT: flag[b < c], api.FSEQ: flag[b == c],
	}[op]
}

func (x *machine) calls(gate int) api.Outcome {
	if len(x.stack) == x.p.Depth {
		return x.ends(api.Overflow, 0)
	}
	x.stack = append(x.stack, x.at)
	x.at.Depth++
	x.enter(gate)
	return api.Outcome{}
}

func (x *machine) returns() api.Outcome {
	results := x.p.Gates[x.at.Gate].Results
	if len(x.stack) == 0 {
		if results == 0 {
			return x.ends(api.Halted, 0)
		}
		return x.ends(api.Halted, x.at.Regs[1])
	}
	caller := x.stack[len(x.stack)-1]
	x.stack = x.stack[:len(x.stack)-1]
	copy(caller.Regs[1:1+results], x.at.Regs[1:])
	x.at = caller
	return x.on()
}

// uses reads or writes memory. It asks for nothing but that there is such a place.
func (x *machine) uses(i api.FInst, a uint64, addr uint64) api.Outcome {
	size := map[api.FOp]uint64{api.FLB: 1, api.FSB: 1, api.FLW: 8, api.FSW: 8, api.FLC: 16, api.FSC: 16}[i.Op]
	if size == 0 || addr >= api.MaxMem || size > api.MaxMem-addr {
		return x.faults(api.FBounds)
	}
	isStore := i.Op == api.FSB || i.Op == api.FSW || i.Op == api.FSC
	x.touches = append(x.touches, api.Touch{Store: isStore, Addr: addr, Size: size})
	n := uint64(0)
	for k := range size {
		if isStore {
			x.bytes[addr+k] = byte(a >> (8 * k)) // noughts behind the eighth
		} else if k < 8 {
			n |= uint64(x.bytes[addr+k]) << (8 * k)
		}
	}
	if isStore {
		return x.on()
	}
	return x.answer(i, n)
}
