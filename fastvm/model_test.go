package fastvm_test

import "paddock/api"

// model is a run reckoned with in the plainest way.
type model struct {
	p       api.Program
	at      api.FSnap
	stack   []api.FSnap
	inputs  []uint64
	out     []uint64
	touches []api.Touch
	bytes   [api.MaxMem]byte
	over    api.Outcome
}

func newModel(p api.Program, gate int, args []uint64, inputs []uint64) *model {
	x := &model{p: p, inputs: inputs}
	copy(x.bytes[:], p.Memory)
	copy(x.at.Regs[1:], args)
	x.enter(gate)
	return x
}

// enter keeps a gate's arguments alone of the registers.
func (x *model) enter(gate int) {
	g := x.p.Gates[gate]
	for k := range x.at.Regs {
		if k == 0 || k > g.Args {
			x.at.Regs[k] = g.Roots[k]
		}
	}
	x.at.Gate, x.at.Pc = gate, g.Entry
}

func (x *model) look() look { return look{x.at, x.out, x.touches, string(x.bytes[:])} }

func (x *model) step() api.Outcome {
	if x.over.End != api.Running {
		return x.over
	}
	if code := x.p.Code[x.at.Gate]; x.at.Pc >= len(code) {
		x.over = x.faults(api.FTarget)
	} else {
		x.over = x.does(code[x.at.Pc])
	}
	if x.over.End == api.Running {
		return api.Outcome{Gate: x.at.Gate, Pc: x.at.Pc}
	}
	return x.over
}

func (x *model) ends(end api.End, value uint64) api.Outcome {
	return api.Outcome{End: end, Value: value, Gate: x.at.Gate, Pc: x.at.Pc}
}

func (x *model) faults(f api.Fault) api.Outcome {
	return api.Outcome{End: api.Faulted, Fault: f, Gate: x.at.Gate, Pc: x.at.Pc}
}

func (x *model) goes(pc int) api.Outcome {
	x.at.Pc = pc
	return api.Outcome{}
}

func (x *model) on() api.Outcome { return x.goes(x.at.Pc + 1) }

func (x *model) answer(i api.FInst, n uint64) api.Outcome {
	x.at.Regs[i.A] = n
	return x.on()
}

func (x *model) does(i api.FInst) api.Outcome {
	// Of a guard C is a code, and no register.
	a, b, c := x.at.Regs[i.A], x.at.Regs[i.B], x.at.Regs[i.C%16]
	flag := map[bool]uint64{true: 1}
	answers := map[api.FOp]uint64{
		api.FLI: i.Imm, api.FMOV: b, api.FADDI: b + i.Imm,
		api.FADD: b + c, api.FSUB: b - c, api.FMUL: b * c, api.FAND: b & c, api.FOR: b | c, api.FXOR: b ^ c,
		api.FSHL: b << (c % 64), api.FSHR: b >> (c % 64), api.FSLT: flag[b < c], api.FSEQ: flag[b == c],
	}
	if n, there := answers[i.Op]; there {
		return x.answer(i, n)
	}
	branches := map[api.FOp]bool{api.FJMP: true, api.FBEQ: a == b, api.FBNE: a != b, api.FBLT: a < b, api.FBGE: a >= b}
	if isTaken, there := branches[i.Op]; there {
		if isTaken {
			return x.goes(int(i.Imm))
		}
		return x.on()
	}
	holds := map[api.FOp]bool{api.FNop: true, api.FGLT: a < i.Imm, api.FGGE: a >= i.Imm, api.FGUARD: false}
	if yes, there := holds[i.Op]; there {
		if yes {
			return x.on()
		}
		return x.ends(api.Guarded, uint64(i.C))
	}
	switch i.Op {
	case api.FHALT:
		return x.ends(api.Halted, a)
	case api.FTRAP:
		return x.ends(api.Trapped, i.Imm)
	case api.FIN:
		if len(x.inputs) == 0 {
			return x.ends(api.Starved, 0)
		}
		n := x.inputs[0]
		x.inputs = x.inputs[1:]
		return x.answer(i, n)
	case api.FOUT:
		x.out = append(x.out, a)
		return x.on()
	case api.FCALL:
		return x.calls(int(i.Imm))
	case api.FRET:
		return x.returns()
	}
	return x.uses(i, a, b+i.Imm)
}

func (x *model) calls(gate int) api.Outcome {
	if len(x.stack) == x.p.Depth {
		return x.ends(api.Overflow, 0)
	}
	x.stack = append(x.stack, x.at)
	x.at.Depth++
	x.enter(gate)
	return api.Outcome{}
}

func (x *model) returns() api.Outcome {
	results := x.p.Gates[x.at.Gate].Results
	if len(x.stack) == 0 {
		if results == 0 {
			return x.ends(api.Halted, 0)
		}
		return x.ends(api.Halted, x.at.Regs[1])
	}
	caller := x.stack[len(x.stack)-1]
	x.stack = x.stack[:len(x.stack)-1]
	for k := 1; k <= results; k++ {
		caller.Regs[k] = x.at.Regs[k]
	}
	x.at = caller
	return x.on()
}

func (x *model) uses(i api.FInst, a uint64, addr uint64) api.Outcome {
	size := map[api.FOp]uint64{api.FLB: 1, api.FSB: 1, api.FLW: 8, api.FSW: 8, api.FLC: 16, api.FSC: 16}[i.Op]
	if addr >= api.MaxMem || size > api.MaxMem-addr {
		return x.faults(api.FBounds)
	}
	isStore := i.Op == api.FSB || i.Op == api.FSW || i.Op == api.FSC
	x.touches = append(x.touches, api.Touch{Store: isStore, Addr: addr, Size: size})
	piece := string(x.bytes[addr : addr+size])
	if isStore {
		copy(x.bytes[addr:], stored(piece, 0, int(size), a))
		return x.on()
	}
	return x.answer(i, read(piece, 0, int(size)))
}
