package checker

import (
	"paddock/api"
	"paddock/capword"
	"paddock/image"
)

// row is how far a row of instructions is gone through: the registers that are known to hold a capability, and which.
type row struct {
	regions []api.Region
	held    [api.Regs]api.Value // a register is known, where Tag is true
}

// beginning is a row of which nothing is gone through: whoever comes there has the roots, but r6 and r7 may be anything.
func beginning(m api.Image, roots []api.Root) *row {
	r := &row{regions: m.Regions}
	for _, root := range roots {
		r.hold(root.Reg, root.Cap)
	}
	return r
}

func (r *row) hold(reg int, c api.Cap) { r.held[reg] = api.Value{Tag: true, C: c} }

// takes goes by an instruction, if the static part allows it here.
func (r *row) takes(i api.Inst) bool {
	if c, ok := r.makes(i); ok {
		r.hold(i.A, c)
		return true
	}
	return r.allows(i)
}

// makes is the capability that an instruction is known to lay in r6 or r7.
func (r *row) makes(i api.Inst) (api.Cap, bool) {
	if !isMade(i.A) || !r.known(i.B) {
		return api.Cap{}, false
	}
	b := r.held[i.B].C
	switch i.Op {
	case api.MOV:
		return b, true
	case api.CINCI:
		return faultless(capword.Inc(b, uint64(i.Imm)))
	case api.CSETBI:
		return faultless(capword.SetBounds(b, uint64(i.Imm)))
	case api.CANDP:
		return faultless(capword.AndPerm(b, api.Perms(i.Imm)))
	case api.CSEAL:
		return r.turned(i, capword.SealBy)
	case api.CUNSEAL:
		return r.turned(i, capword.UnsealBy)
	case api.LC:
		return r.loaded(i)
	}
	return api.Cap{}, false
}

func faultless(c api.Cap, f api.Fault) (api.Cap, bool) { return c, f == api.NoFault }

// turned is B, sealed or unsealed by C.
func (r *row) turned(i api.Inst, turn func(c api.Cap, by api.Cap) (api.Cap, api.Fault)) (api.Cap, bool) {
	if !r.known(i.C) {
		return api.Cap{}, false
	}
	return faultless(turn(r.held[i.B].C, r.held[i.C].C))
}

// allows tells of an instruction that lays no capability in a register whether the static part has it.
func (r *row) allows(i api.Inst) bool {
	switch i.Op {
	case api.JMP, api.TRAP, api.CALL, api.RET:
		return true
	case api.LI, api.IN, api.HALT, api.OUT, api.GLT, api.GGE:
		return integers(i.A)
	case api.MOV, api.ADDI, api.BEQ, api.BNE, api.BLT, api.BGE:
		return integers(i.A, i.B)
	case api.ADD, api.SUB, api.MUL, api.AND, api.OR, api.XOR, api.SHL, api.SHR, api.SLT, api.SEQ:
		return integers(i.A, i.B, i.C)
	case api.CADDR, api.CBASE, api.CEND, api.CPERM, api.CSEALED, api.CTAG:
		return integers(i.A) && r.known(i.B)
	case api.CSAME:
		return integers(i.A) && r.known(i.B, i.C)
	case api.LB, api.LW, api.SB, api.SW:
		return integers(i.A) && r.known(i.B) && r.inBytes(i)
	case api.SC:
		return r.known(i.A, i.B) && r.stored(i)
	case api.GTAG, api.GIN, api.GPERM, api.GSEAL:
		return r.known(i.A)
	}
	return false
}

func isMade(reg int) bool { return firstMade <= reg && reg < api.Roots }

func integers(regs ...int) bool {
	for _, reg := range regs {
		if reg >= firstMade {
			return false
		}
	}
	return true
}

func (r *row) known(regs ...int) bool {
	for _, reg := range regs {
		if !r.held[reg].Tag {
			return false
		}
	}
	return true
}

// loaded is what lies in the place that an LC reads: its type alone must tell.
func (r *row) loaded(i api.Inst) (api.Cap, bool) {
	t, there := r.slot(i, api.LoadCap)
	return image.CapOf(t, t.Lo), there && t.Lo == t.Hi
}

// stored tells whether an SC may lay A in its place.
func (r *row) stored(i api.Inst) bool {
	t, there := r.slot(i, api.StoreCap)
	return there && image.Fits(r.held[i.A], t)
}
