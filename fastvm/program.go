package fastvm

import "paddock/api"

// mostCode is the greatest code of a guard.
const mostCode = 255

// mayBe tells whether a program may be: all that a machine relies on without looking again.
func mayBe(p api.Program) bool {
	if !isWithin(len(p.Gates), 1, api.MaxGates) || len(p.Code) != len(p.Gates) {
		return false
	}
	if !isWithin(p.Depth, 0, api.MaxDepth) || len(p.Memory) > api.MaxMem {
		return false
	}
	for k, g := range p.Gates {
		if !rowMayBe(p.Code[k], len(p.Gates)) || !gateMayBe(g, len(p.Code[k])) {
			return false
		}
	}
	return true
}

// gateMayBe tells it of a gate whose row has so many instructions.
func gateMayBe(g api.FEntry, size int) bool {
	return isWithin(g.Entry, 0, size-1) && isWithin(g.Args, 0, api.MaxArgs) && isWithin(g.Results, 0, api.MaxArgs)
}

// rowMayBe tells it of a gate's code, where there are so many gates.
func rowMayBe(code []api.FInst, gates int) bool {
	if !isWithin(len(code), 1, api.MaxCode) {
		return false
	}
	for _, i := range code {
		if !isNamed(i.Op) || !fieldsMayBe(i) || !isThere(i, len(code), gates) {
			return false
		}
	}
	return true
}

// isNamed tells whether package api names an operation. Kinds of operations follow one another by their numbers, with gaps between.
func isNamed(op api.FOp) bool {
	switch {
	case op <= api.FSEQ:
		return true
	case op <= api.FBGE:
		return op >= api.FJMP
	case op <= api.FRET:
		return op >= api.FHALT
	case op <= api.FSC:
		return op >= api.FLB
	}
	return op >= api.FGLT && op <= api.FGUARD
}

// fieldsMayBe asks of all fields, whether the operation uses them or not.
func fieldsMayBe(i api.FInst) bool {
	most := api.Regs - 1
	if i.Op >= api.FGLT {
		most = mostCode
	}
	return isWithin(i.A, 0, api.Regs-1) && isWithin(i.B, 0, api.Regs-1) && isWithin(i.C, 0, most)
}

// isThere tells whether the instruction, or the gate, to which one goes is there.
func isThere(i api.FInst, size int, gates int) bool {
	switch i.Op {
	case api.FJMP, api.FBEQ, api.FBNE, api.FBLT, api.FBGE:
		return i.Imm < uint64(size)
	case api.FCALL:
		return i.Imm < uint64(gates)
	}
	return true
}

func isWithin(n int, least int, most int) bool { return n >= least && n <= most }
