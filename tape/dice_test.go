package tape_test

import (
	"math/rand/v2"

	"paddock/api"
)

// dice makes programs and runs, the same in each run of the tests.
type dice struct{ *rand.Rand }

func rolled(seed uint64) dice { return dice{rand.New(rand.NewPCG(seed, 21))} }

// of is one of a list.
func of[T any](d dice, l ...T) T { return l[d.IntN(len(l))] }

func (d dice) oneIn(n int) bool { return d.IntN(n) == 0 }

func (d dice) number() uint64 {
	return of(d, 0, 1, 2, 3, 5, 8, top, d.Uint64N(20), d.Uint64())
}

func (d dice) numbers(n int) []uint64 {
	var l []uint64
	for range n {
		l = append(l, d.number())
	}
	return l
}

// integer is a register in which never anything but integers is laid.
func (d dice) integer() int { return d.IntN(6) }

// inst is an instruction of a code of so many that is sure not to fault, where there are so many gates of integers alone, and the roots are those of ground.
func (d dice) inst(size, gates int) api.Inst {
	a, b, c := d.integer(), d.integer(), d.integer()
	switch d.IntN(18) {
	case 0, 1, 2:
		return api.Inst{Op: api.SB, A: a, B: 8, Imm: d.IntN(64)}
	case 3, 4:
		return api.Inst{Op: api.SW, A: a, B: 8, Imm: d.IntN(57)}
	case 5:
		return of(d, api.Inst{Op: api.SB, A: a, B: 12, Imm: d.IntN(16)}, api.Inst{Op: api.SW, A: a, B: 12, Imm: d.IntN(9)})
	case 6:
		return api.Inst{Op: api.SC, A: 10 + d.IntN(2), B: 9, Imm: 16 * d.IntN(2)}
	case 7:
		return of(d, api.Inst{Op: api.LB, A: a, B: 8, Imm: d.IntN(64)}, api.Inst{Op: api.LW, A: a, B: 8, Imm: d.IntN(57)}, api.Inst{Op: api.LC, A: 6, B: 9, Imm: 16})
	case 8:
		return of(d, api.Inst{Op: api.LI, A: a, Imm: d.IntN(9) - 2}, api.Inst{Op: api.IN, A: a}, api.Inst{Op: api.OUT, A: a})
	case 9:
		return api.Inst{Op: of(d, api.ADD, api.SUB, api.MUL, api.XOR, api.SHR, api.SLT, api.SEQ), A: a, B: b, C: c}
	case 10:
		return api.Inst{Op: api.ADDI, A: a, B: b, Imm: d.IntN(9) - 3}
	case 11, 12:
		return api.Inst{Op: of(d, api.BEQ, api.BNE, api.BLT, api.BGE), A: a, B: b, Imm: d.IntN(size)}
	case 13:
		return api.Inst{Op: api.CALL, Imm: d.IntN(gates)}
	case 14:
		return of(d, api.Inst{Op: api.GLT, A: a, C: d.IntN(256), Imm: of(d, 9, 1<<31-1)}, api.Inst{Op: api.GGE, A: a, C: d.IntN(256), Imm: d.IntN(2)})
	case 15, 16:
		return of(d, api.Inst{Op: api.JMP, Imm: d.IntN(size)}, api.Inst{Op: api.IN, A: a}, api.Inst{Op: api.IN, A: a})
	}
	return of(d, api.Inst{Op: api.RET}, api.Inst{Op: api.RET}, api.Inst{Op: api.RET}, api.Inst{Op: api.HALT, A: a}, api.Inst{Op: api.TRAP, Imm: d.IntN(256)})
}

func (d dice) code(gates int) []api.Inst {
	var l []api.Inst
	size := 3 + d.IntN(10)
	for len(l) < size-1 {
		l = append(l, d.inst(size, gates))
	}
	return append(l, of(d, api.Inst{Op: api.JMP}, api.Inst{Op: api.JMP}, api.Inst{Op: api.JMP}, api.Inst{Op: api.RET}, api.Inst{Op: api.HALT, A: 1}))
}

// run is one that may be, of a program that is taken: of two compartments, which share all of memory.
func (d dice) run(m api.Image) run {
	m = api.Image{Depth: 1 + d.IntN(3), Regions: m.Regions, Comps: []api.Comp{{Roots: m.Comps[0].Roots}, {Roots: m.Comps[0].Roots}}}
	gates := 2 + d.IntN(3)
	for k := range m.Comps {
		m.Comps[k].Code = d.code(gates)
	}
	for k := range gates {
		g := api.Gate{Comp: k % 2, Args: make([]api.Type, d.IntN(4)), Results: make([]api.Type, d.IntN(3))}
		if d.oneIn(2) {
			g.Entry = d.IntN(len(m.Comps[g.Comp].Code))
		}
		m.Gates = append(m.Gates, g)
	}
	r := run{m: m, gate: d.IntN(gates), inputs: d.numbers(d.IntN(9)), fuel: of(d, d.IntN(5), d.IntN(30), 60)}
	r.args = d.numbers(len(m.Gates[r.gate].Args))
	return r
}
