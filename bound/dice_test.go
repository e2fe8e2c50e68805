package bound_test

import (
	"math/rand/v2"
	"slices"

	"paddock/api"
	"paddock/instr"
)

// dice makes programs, the same in each run of the tests.
type dice struct{ *rand.Rand }

func rolled(seed uint64) dice { return dice{rand.New(rand.NewPCG(seed, 18))} }

// of is one of a list.
func of[T any](d dice, l ...T) T { return l[d.IntN(len(l))] }

func (d dice) oneIn(n int) bool { return d.IntN(n) == 0 }

const rw = api.Load | api.Store

// lent is a type of capabilities: that of the root r8 of each compartment.
var lent = api.Type{Cap: true, End: 64, Hi: 32, Perms: rw}

// program is any right program with small code. It goes forth mostly, and calls those of later compartments mostly, so that often all is known.
func (d dice) program() api.Image {
	m := api.Image{Depth: 1 + d.IntN(4), Regions: []api.Region{{Len: 64, Data: "\x01\x02\x03"}}}
	comps := 1 + d.IntN(4)
	sizes := make([]int, comps)
	for k := range sizes {
		sizes[k] = 1 + d.IntN(10)
	}
	for range 1 + d.IntN(6) {
		c := d.IntN(comps)
		m.Gates = append(m.Gates, api.Gate{Comp: c, Entry: d.IntN(1 + d.IntN(sizes[c])), Args: d.types(), Results: d.types()})
	}
	for k, size := range sizes {
		c := api.Comp{Roots: []api.Root{{Reg: 8, Cap: api.Cap{End: 64, Cursor: 16, Perms: rw}}}}
		for pc := range size {
			c.Code = append(c.Code, d.inst(m.Gates, k, pc, size))
		}
		m.Comps = append(m.Comps, c)
	}
	return m
}

func (d dice) types() []api.Type {
	var l []api.Type
	for range d.IntN(3) {
		l = append(l, of(d, api.Type{}, api.Type{}, api.Type{}, api.Type{}, api.Type{}, api.Type{}, api.Type{}, lent))
	}
	return l
}

func (d dice) op() api.Op {
	switch d.IntN(10) {
	case 0, 1:
		return api.IN
	case 2, 3:
		return api.CALL
	case 4, 5:
		return api.BEQ + api.Op(d.IntN(4))
	case 6:
		return of(d, api.JMP, api.JMP, api.JMP, api.HALT, api.RET, api.RET, api.TRAP)
	case 7:
		return of(d, api.LI, api.ADDI, api.OUT, api.GLT, api.LW, api.SB, api.MOV)
	case 8:
		return of(d, api.LI, api.ADDI, api.OUT, api.SLT)
	}
	if op := api.Op(d.IntN(80)); instr.Name(op) != "" && (op != api.JC || d.oneIn(4)) {
		return op
	}
	return d.op()
}

// inst is a right instruction at a place of a compartment.
func (d dice) inst(gates []api.Gate, comp, pc, size int) api.Inst {
	i := api.Inst{Op: d.op()}
	registers := []*int{&i.A, &i.B, &i.C}
	for k, letter := range instr.Shape(i.Op) {
		switch letter {
		case 'r':
			*registers[k] = d.register(i.Op, k)
		case 'i':
			i.Imm = of(d, 0, 0, 1, 2, 7, 16, 40)
		case 'n':
			i.Imm = of(d, 0, 1, 8, 17, api.MaxMem)
		case 'p':
			i.Imm = of(d, 1, 3, 12, 127)
		case 's':
			i.Imm = of(d, 0, 2, 5)
		case 't':
			i.Imm = d.target(pc, size)
		case 'g':
			i.Imm = d.called(gates, comp)
		case 'c':
			i.C = d.IntN(256)
		}
	}
	if i.Op == api.TRAP {
		i.C, i.Imm = 0, i.C
	}
	return i
}

// register is one that mostly holds what an operation needs.
func (d dice) register(op api.Op, field int) int {
	isCap := field == 1 && op >= api.CINC && op <= api.SC || field == 0 && op >= api.GTAG
	if isCap {
		return 8
	}
	return 1 + d.IntN(5)
}

func (d dice) target(pc, size int) int {
	if pc+1 < size && !d.oneIn(9) {
		return pc + 1 + d.IntN(size-pc-1)
	}
	return d.IntN(size)
}

func (d dice) called(gates []api.Gate, comp int) int {
	var later []int
	for k, g := range gates {
		if g.Comp > comp {
			later = append(later, k)
		}
	}
	if len(later) == 0 || d.oneIn(9) {
		return d.IntN(len(gates))
	}
	return of(d, later...)
}

func (d dice) numbers(n int) []uint64 {
	var l []uint64
	for range n {
		l = append(l, of(d, 0, 0, 1, 1, 2, 3, ^uint64(0), d.Uint64N(40), d.Uint64()))
	}
	return l
}

// steered is a program each of whose branches hangs on an input of its own, and whose called gates all come back: so there is a run for each way. Its gates call later ones alone, and none goes back.
func (d dice) steered() api.Image {
	m := api.Image{Depth: api.MaxDepth, Comps: make([]api.Comp, 1+d.IntN(3))}
	gates := 1 + d.IntN(5)
	for k := range gates {
		comp := d.IntN(len(m.Comps))
		if k < len(m.Comps) {
			comp = k
		}
		c := &m.Comps[comp]
		m.Gates = append(m.Gates, api.Gate{Comp: comp, Entry: len(c.Code)})
		c.Code = append(c.Code, d.row(len(c.Code), k, gates)...)
	}
	m.Comps = slices.DeleteFunc(m.Comps, func(c api.Comp) bool { return len(c.Code) == 0 })
	return m
}

// row is the code of a gate of such a program, from begin on. r2 is 0 all along, r3 is 1, and r1 is the last input.
func (d dice) row(begin, gate, gates int) []api.Inst {
	size := 1 + d.IntN(9)
	l := []api.Inst{{Op: api.LI, A: 3, Imm: 1}}
	for len(l) <= size {
		further := func(pc int) int { return begin + pc + 1 + d.IntN(size+1-pc) }
		switch {
		case d.oneIn(3) && len(l) < size:
			i := of(d, api.Inst{Op: api.BEQ, A: 1, B: 2}, api.Inst{Op: api.BNE, A: 2, B: 1}, api.Inst{Op: api.BLT, A: 1, B: 3}, api.Inst{Op: api.BGE, A: 1, B: 3})
			i.Imm = further(len(l) + 1)
			l = append(l, in, i)
		case d.oneIn(3) && gate+1 < gates:
			l = append(l, call(gate+1+d.IntN(gates-gate-1)))
		case d.oneIn(6):
			l = append(l, in)
		case d.oneIn(9):
			l = append(l, api.Inst{Op: api.JMP, Imm: further(len(l))})
		default:
			l = append(l, of(d, api.Inst{Op: api.OUT, A: 1}, idle, api.Inst{Op: api.ADDI, A: 4, B: 4, Imm: 1}))
		}
	}
	l = append(l, d.end(gate, gates))
	for k := range l {
		// Who goes to a branch goes to its input first.
		if at := l[k].Imm - begin; (l[k].Op == api.JMP || isBranch(l[k].Op)) && isBranch(l[at].Op) {
			l[k].Imm--
		}
	}
	return l
}

// end is how a gate ends. The first one, which nobody calls, may end otherwise than by RET, or go on behind its row.
func (d dice) end(gate, gates int) api.Inst {
	if gate > 0 {
		return ret
	}
	l := []api.Inst{ret, {Op: api.HALT, A: 1}, {Op: api.TRAP, Imm: 3}, idle, in, {Op: api.GGE, A: 1, C: 7}}
	if gates > 1 {
		l = append(l, call(gates-1))
	}
	return of(d, l...)
}
