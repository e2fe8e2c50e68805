package fastvm_test

import (
	"math/rand/v2"

	"paddock/api"
)

// longest is how many steps a program of the dice is let run.
const longest = 120

// dice makes programs, the same in each run of the tests.
type dice struct{ *rand.Rand }

func rolled(seed uint64) dice { return dice{rand.New(rand.NewPCG(seed, 13))} }

// of is one of a list.
func of[T any](d dice, l ...T) T { return l[d.IntN(len(l))] }

func (d dice) mostly() bool { return d.IntN(12) > 0 }

// number is one at the edge of something, or any.
func (d dice) number() uint64 {
	return of(d, 0, 1, 2, 5, 16, 63, 64, 65520, 65528, 65535, 65536, 1<<63, top, d.Uint64N(40), d.Uint64N(65536), d.Uint64())
}

func (d dice) numbers(n int) []uint64 {
	var l []uint64
	for range n {
		l = append(l, d.number())
	}
	return l
}

// program is one that may be, and the arguments of its gate 0.
func (d dice) program() (api.Program, []uint64) {
	p := api.Program{Depth: d.IntN(5), Memory: varied()[:of(d, 0, 100, 65536, d.IntN(65537))]}
	if d.IntN(3) == 0 {
		p.Depth = api.MaxDepth
	}
	gates := 1 + d.IntN(4)
	for range gates {
		row := d.row(4+d.IntN(14), gates)
		g := api.FEntry{Entry: d.IntN(1 + len(row)/2), Args: d.IntN(8), Results: d.IntN(8)}
		for k := range g.Roots {
			g.Roots[k] = d.Uint64N(60000)
			if !d.mostly() {
				g.Roots[k] = d.number()
			}
		}
		p.Code, p.Gates = append(p.Code, row), append(p.Gates, g)
	}
	return p, d.numbers(p.Gates[0].Args)
}

// row is a gate's code, which gives back in the end, mostly. What ends a run stands there seldom, so that runs are not over at once.
func (d dice) row(size int, gates int) []api.FInst {
	var l []api.FInst
	all := append(ops(), api.FIN, api.FCALL)
	for len(l) < size {
		op := of(d, all...)
		if len(l) == size-1 && d.mostly() {
			op = api.FRET
		}
		if (op == api.FHALT || op == api.FTRAP || op == api.FGUARD) && d.mostly() {
			continue
		}
		l = append(l, d.inst(op, size, gates))
	}
	return l
}

// inst is an instruction of a row of so many. Of those that touch memory the address lies there, mostly.
func (d dice) inst(op api.FOp, size int, gates int) api.FInst {
	i := api.FInst{Op: op, A: d.IntN(16), B: d.IntN(16), C: d.IntN(16), Imm: d.number()}
	switch {
	case op >= api.FJMP && op <= api.FBGE:
		i.Imm = d.Uint64N(uint64(size))
	case op == api.FCALL:
		i.Imm = d.Uint64N(uint64(gates))
	case isGuard(op):
		i.C = d.IntN(256)
		if d.mostly() {
			i.Imm = map[api.FOp]uint64{api.FGLT: top}[op]
		}
	case op >= api.FLB && op <= api.FSC && d.mostly():
		// A register that nothing was laid in, likely.
		i.B, i.Imm = 8+d.IntN(8), d.Uint64N(5000)
	case op <= api.FSEQ && d.mostly():
		i.A = d.IntN(8)
	}
	return i
}
