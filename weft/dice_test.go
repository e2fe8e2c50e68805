package weft_test

import (
	"math/rand/v2"

	"paddock/api"
)

// dice makes nets, the same in each run of the tests.
type dice struct{ *rand.Rand }

func rolled(seed uint64) dice { return dice{rand.New(rand.NewPCG(seed, 20))} }

// of is one of a list.
func of[T any](d dice, l ...T) T { return l[d.IntN(len(l))] }

func (d dice) oneIn(n int) bool { return d.IntN(n) == 0 }

func (d dice) number() uint64 {
	return of(d, 0, 1, 2, 3, 5, 8, top, d.Uint64N(20), d.Uint64())
}

func (d dice) numbers(n int) []uint64 {
	var l []uint64
	for range n {
		l = append(l, d.number())
	}
	return l
}

// integer is a register in which never anything but integers is laid.
func (d dice) integer() int { return d.IntN(6) }

// inst is an instruction of a code of so many that is sure not to fault, where there are so many gates of integers alone.
func (d dice) inst(size, gates int) api.Inst {
	a, b, c := d.integer(), d.integer(), d.integer()
	switch d.IntN(16) {
	case 0, 1, 2:
		return api.Inst{Op: api.IN, A: a}
	case 3, 4, 5:
		return api.Inst{Op: api.OUT, A: a}
	case 6:
		return api.Inst{Op: api.LI, A: a, Imm: d.IntN(9) - 2}
	case 7:
		return api.Inst{Op: of(d, api.ADD, api.SUB, api.MUL, api.XOR, api.SHR, api.SLT, api.SEQ), A: a, B: b, C: c}
	case 8:
		return api.Inst{Op: api.ADDI, A: a, B: b, Imm: d.IntN(9) - 3}
	case 9, 10:
		return api.Inst{Op: of(d, api.BEQ, api.BNE, api.BLT, api.BGE), A: a, B: b, Imm: d.IntN(size)}
	case 11:
		return api.Inst{Op: api.LW, A: a, B: 8, Imm: 8 * d.IntN(2)}
	case 12:
		return api.Inst{Op: api.SW, A: a, B: 8, Imm: 8 * d.IntN(2)}
	case 13:
		return api.Inst{Op: api.CALL, Imm: d.IntN(gates)}
	case 14:
		return of(d, api.Inst{Op: api.GLT, A: a, C: d.IntN(256), Imm: 1<<31 - 1}, api.Inst{Op: api.GGE, A: a, C: d.IntN(256), Imm: d.IntN(2)})
	}
	return of(d, api.Inst{Op: api.RET}, api.Inst{Op: api.RET}, api.Inst{Op: api.JMP, Imm: d.IntN(size)}, api.Inst{Op: api.HALT, A: a}, api.Inst{Op: api.TRAP, Imm: d.IntN(256)})
}

func (d dice) code(gates int) []api.Inst {
	var l []api.Inst
	size := 3 + d.IntN(10)
	for len(l) < size-1 {
		l = append(l, d.inst(size, gates))
	}
	return append(l, of(d, api.Inst{Op: api.JMP}, api.Inst{Op: api.JMP}, api.Inst{Op: api.JMP}, api.Inst{Op: api.RET}, api.Inst{Op: api.HALT, A: 1}))
}

// program is one that is taken: of two compartments, which share a word of memory.
func (d dice) program() api.Image {
	m := api.Image{Depth: 1 + d.IntN(3), Regions: []api.Region{{Base: 16, Len: 16, Data: of(d, "", "\x03", "some bytes")}}}
	gates := 2 + d.IntN(2)
	root := api.Root{Reg: 8, Cap: api.Cap{Base: 16, End: 32, Cursor: 16, Perms: api.Load | api.Store}}
	for range 2 {
		m.Comps = append(m.Comps, api.Comp{Roots: []api.Root{root}, Code: d.code(gates)})
	}
	for k := range gates {
		g := api.Gate{Comp: k % 2, Args: make([]api.Type, d.IntN(4)), Results: make([]api.Type, d.IntN(3))}
		if d.oneIn(3) {
			g.Entry = d.IntN(len(m.Comps[g.Comp].Code))
		}
		m.Gates = append(m.Gates, g)
	}
	return m
}

// net is a right one, in which most of those who take have somebody who puts.
func (d dice) net() api.Net {
	var n api.Net
	for range 1 + d.IntN(4) {
		n.Programs = append(n.Programs, d.program())
	}
	procs := 1 + d.IntN(6)
	queues := procs + d.IntN(3)
	for range queues {
		n.Queues = append(n.Queues, d.numbers(max(0, d.IntN(7)-2)))
	}
	ins, outs := d.Perm(queues), d.Perm(queues)
	for k := range procs {
		p := api.Proc{Program: d.IntN(len(n.Programs)), In: ins[k], Out: outs[k]}
		p.Gate = d.IntN(len(n.Programs[p.Program].Gates))
		p.Args = d.numbers(len(n.Programs[p.Program].Gates[p.Gate].Args))
		if d.oneIn(12) {
			p.In = -1
		}
		if d.oneIn(12) {
			p.Out = -1
		}
		n.Procs = append(n.Procs, p)
	}
	return n
}

// any is a net in which something may be wrong.
func (d dice) any() api.Net {
	n := d.net()
	for range d.IntN(3) {
		p := &n.Procs[d.IntN(len(n.Procs))]
		m := &n.Programs[d.IntN(len(n.Programs))]
		switch d.IntN(10) {
		case 0:
			*of(d, &p.In, &p.Out) = of(d, -1<<63, -2, -1, 0, 1, len(n.Queues)-1, len(n.Queues), 1<<63-1)
		case 1:
			*of(d, &p.Program, &p.Gate) = of(d, -1<<63, -1, 0, 1, 2, 3, 4, 1<<63-1)
		case 2:
			p.Args = d.numbers(d.IntN(9))
		case 3:
			*m = of(d, api.Image{}, api.Image{Depth: 1, Comps: make([]api.Comp, 1), Gates: make([]api.Gate, 1)})
		case 4:
			for _, c := range m.Comps {
				for k := range c.Code {
					if i := &c.Code[k]; d.oneIn(12) {
						*of(d, &i.A, &i.B, &i.C, &i.Imm) = of(d, -1, 0, 5, 7, 8, 16, 255, 1<<31)
					}
				}
			}
		case 5:
			n.Procs = append(n.Procs, make([]api.Proc, d.IntN(6))...)
		case 6:
			n.Queues = append(n.Queues, make([][]uint64, d.IntN(6))...)
		case 7:
			for range d.IntN(6) {
				n.Programs = append(n.Programs, n.Programs[0])
			}
		case 8:
			n.Queues[d.IntN(len(n.Queues))] = make([]uint64, of(d, 0, 5, api.MaxFuel, api.MaxFuel+1))
		case 9:
			other := of(d, n.Procs...)
			p.In, p.Out = of(d, p.In, other.In), of(d, p.Out, other.Out)
		}
	}
	return n
}
