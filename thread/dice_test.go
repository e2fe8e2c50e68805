package thread_test

import (
	"math/rand/v2"

	"paddock/api"
)

// dice makes programs, the same in each run of the tests.
type dice struct{ *rand.Rand }

func rolled(seed uint64) dice { return dice{rand.New(rand.NewPCG(seed, 23))} }

// of is one of a list.
func of[T any](d dice, l ...T) T { return l[d.IntN(len(l))] }

func (d dice) oneIn(n int) bool { return d.IntN(n) == 0 }

// number is one at the edge of something, or any.
func (d dice) number() uint64 {
	return of(d, 0, 1, 2, 5, 16, 63, 64, 65520, 65528, 65535, 65536, 1<<63, top, d.Uint64N(40), d.Uint64N(65536), d.Uint64())
}

func (d dice) numbers(n int) []uint64 {
	var l []uint64
	for range n {
		l = append(l, d.number())
	}
	return l
}

// program is one that may be.
func (d dice) program() api.Program {
	p := api.Program{Depth: d.IntN(5), Memory: d.memory()}
	if d.oneIn(3) {
		p.Depth = api.MaxDepth
	}
	gates := of(d, 1, 2, 3, 4)
	for range gates {
		size := of(d, 1, 2, 4+d.IntN(8), 8+d.IntN(20))
		row := d.row(size, gates)
		g := api.FEntry{Entry: of(d, 0, 0, size-1, d.IntN(size)), Args: d.IntN(8), Results: d.IntN(8)}
		for k := range g.Roots {
			g.Roots[k] = d.Uint64N(60000)
			if d.oneIn(12) {
				g.Roots[k] = d.number()
			}
		}
		p.Code, p.Gates = append(p.Code, row), append(p.Gates, g)
	}
	return p
}

// memory is seldom long, as each run lays it anew.
func (d dice) memory() string {
	if d.oneIn(20) {
		return varied()[:of(d, 65536, d.IntN(65537))]
	}
	return varied()[:of(d, 0, 100, 5000, d.IntN(5000))]
}

// row is a gate's code, which gives back in the end, mostly. What ends a run stands there seldom, so that runs are not over at once; much is put out, so that it is seen what registers hold.
func (d dice) row(size int, gates int) []api.FInst {
	var l []api.FInst
	all := append(ops(), api.FIN, api.FCALL, api.FOUT, api.FOUT, api.FOUT, api.FOUT)
	for len(l) < size {
		op := of(d, all...)
		if len(l) == size-1 && !d.oneIn(5) {
			op = of(d, api.FRET, api.FRET, api.FJMP)
		}
		if (op == api.FHALT || op == api.FTRAP || op == api.FGUARD) && !d.oneIn(6) {
			continue
		}
		l = append(l, d.inst(op, size, gates))
	}
	return l
}

// inst is an instruction of a row of so many. Of those that touch memory the address lies there, mostly.
func (d dice) inst(op api.FOp, size int, gates int) api.FInst {
	i := api.FInst{Op: op, A: d.IntN(16), B: d.IntN(16), C: d.IntN(16), Imm: d.number()}
	switch {
	case namesOne(op):
		i.Imm = d.Uint64N(uint64(size))
	case op == api.FCALL:
		i.Imm = d.Uint64N(uint64(gates))
	case isGuard(op):
		i.C = d.IntN(256)
		if !d.oneIn(5) {
			i.Imm = map[api.FOp]uint64{api.FGLT: top}[op]
		}
	case op >= api.FLB && op <= api.FSC && !d.oneIn(12):
		// A register that nothing was laid in, likely.
		i.B, i.Imm = 8+d.IntN(8), d.Uint64N(5000)
	case op <= api.FSEQ && !d.oneIn(12):
		i.A = d.IntN(8)
	}
	return i
}

// askew is a program that may be, or one in which something was written over, which it may be or not.
func (d dice) askew() api.Program {
	p := d.program()
	gate := d.IntN(len(p.Gates))
	row := p.Code[gate]
	i, g := &row[d.IntN(len(row))], &p.Gates[gate]
	n := of(d, least, -17, -1, 0, 1, 7, 8, 15, 16, 17, 255, 256, 399, 400, 1<<32, most, d.IntN(len(row)+2))
	switch d.IntN(16) {
	case 0:
		i.A = n
	case 1:
		i.B = n
	case 2:
		i.C = n
	case 3:
		i.Op = api.FOp(d.IntN(256))
	case 4, 5:
		i.Op, i.Imm = of(d, api.FJMP, api.FBEQ, api.FCALL), uint64(n)
	case 6:
		g.Entry = n
	case 7:
		g.Args = n
	case 8:
		g.Results = n
	case 9:
		p.Depth = n
	case 10:
		p.Code = p.Code[:d.IntN(len(p.Code)+1)]
	case 11:
		p.Gates = p.Gates[:d.IntN(len(p.Gates)+1)]
	case 12:
		p.Code[gate] = nil
	case 13:
		p.Memory = varied() + of(d, "", "x", varied())
	case 14:
		p.Code[gate] = many(of(d, 399, 400, 401), row[0])
	}
	return p
}
