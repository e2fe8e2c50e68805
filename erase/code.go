package erase

import (
	"paddock/api"
	"paddock/image"
	"paddock/transfer"
)

// codeOf is what is left of the code of a gate's compartment, where this is known ahead of its instructions; false, if that is too little for one of them.
func codeOf(m api.Image, gate int, states []api.State) ([]api.FInst, bool) {
	comp := m.Gates[gate].Comp
	code := make([]api.FInst, len(states))
	for pc, s := range states {
		if !s.Live {
			code[pc] = api.FInst{Op: api.FTRAP}
			continue
		}
		d := transfer.Do(m, gate, pc, s)
		if d.Reason != api.Fine {
			return nil, false
		}
		code[pc] = left(m, comp, m.Comps[comp].Code[pc], d)
	}
	return code, true
}

// left is what is left of an instruction of a compartment: what is known of its answer ahead of time is not asked any more.
func left(m api.Image, comp int, i api.Inst, d api.Step) api.FInst {
	switch d.Verdict {
	case api.Known:
		return api.FInst{Op: api.FLI, A: i.A, Imm: d.Value}
	case api.Goes:
		return api.FInst{Op: api.FJMP, Imm: d.Value}
	case api.Holds:
		return api.FInst{Op: api.FNop}
	case api.Fails:
		return api.FInst{Op: api.FGUARD, C: i.C}
	}
	return plain(m, comp, i)
}

// plain is what is left of an instruction of which no more is known than that it is right: of a capability where it points alone.
func plain(m api.Image, comp int, i api.Inst) api.FInst {
	switch i.Op {
	case api.CADDR, api.CSETB, api.CSETBI, api.CANDP, api.CSEAL, api.CUNSEAL:
		return api.FInst{Op: api.FMOV, A: i.A, B: i.B}
	case api.CPC:
		c, _ := image.CodeCap(m, comp, i.Imm)
		return api.FInst{Op: api.FLI, A: i.A, Imm: c.Cursor}
	}
	// The fields that a right instruction has not are 0.
	return api.FInst{Op: bare[i.Op], A: i.A, B: i.B, C: i.C, Imm: uint64(i.Imm)}
}

// bare has, for the operations that keep all of their fields, what does the same with bare numbers.
var bare = [api.GSEAL + 1]api.FOp{
	api.LI:    api.FLI,
	api.MOV:   api.FMOV,
	api.ADD:   api.FADD,
	api.SUB:   api.FSUB,
	api.MUL:   api.FMUL,
	api.AND:   api.FAND,
	api.OR:    api.FOR,
	api.XOR:   api.FXOR,
	api.SHL:   api.FSHL,
	api.SHR:   api.FSHR,
	api.ADDI:  api.FADDI,
	api.SLT:   api.FSLT,
	api.SEQ:   api.FSEQ,
	api.JMP:   api.FJMP,
	api.BEQ:   api.FBEQ,
	api.BNE:   api.FBNE,
	api.BLT:   api.FBLT,
	api.BGE:   api.FBGE,
	api.HALT:  api.FHALT,
	api.TRAP:  api.FTRAP,
	api.IN:    api.FIN,
	api.OUT:   api.FOUT,
	api.CALL:  api.FCALL,
	api.RET:   api.FRET,
	api.CINC:  api.FADD,
	api.CINCI: api.FADDI,
	api.CSAME: api.FSEQ,
	api.LB:    api.FLB,
	api.LW:    api.FLW,
	api.SB:    api.FSB,
	api.SW:    api.FSW,
	api.LC:    api.FLC,
	api.SC:    api.FSC,
	api.GLT:   api.FGLT,
	api.GGE:   api.FGGE,
}
