package image

import (
	"strings"

	"paddock/api"
	"paddock/capword"
	"paddock/instr"
)

func countsRight(m api.Image) bool {
	return len(m.Regions) <= api.MaxRegions &&
		1 <= len(m.Comps) && len(m.Comps) <= api.MaxComps &&
		1 <= len(m.Gates) && len(m.Gates) <= api.MaxGates &&
		1 <= m.Depth && m.Depth <= api.MaxDepth
}

func regionsRight(l []api.Region) api.Errno {
	end := uint64(0)
	for _, r := range l {
		if !placeRight(r, end) || !contentRight(r) {
			return api.ErrRegion
		}
		for _, s := range r.Slots {
			if !slotRight(s) {
				return api.ErrSlot
			}
		}
		end = r.Base + r.Len
	}
	return api.OK
}

// placeRight tells whether a region lies in memory, not ahead of the end of what is there already. It asks what is left up to MaxMem, as the sum of Base and Len could go round.
func placeRight(r api.Region, end uint64) bool {
	return r.Base%api.Granule == 0 && r.Len%api.Granule == 0 && r.Len != 0 &&
		end <= r.Base && r.Base < api.MaxMem && r.Len <= api.MaxMem-r.Base
}

// contentRight tells whether a region holds slots that fill it, or else bytes that it has room for. Noughts come behind Data, so one at its end would be a second way to say the same.
func contentRight(r api.Region) bool {
	if len(r.Slots) > 0 {
		return r.Data == "" && r.Len == api.Granule*uint64(len(r.Slots))
	}
	return uint64(len(r.Data)) <= r.Len && !strings.HasSuffix(r.Data, "\x00")
}

func slotRight(s api.Slot) bool {
	return s.Type.Cap && typeRight(s.Type) && pointsWithin(s.Type, s.Cursor)
}

func compsRight(m api.Image) api.Errno {
	for _, c := range m.Comps {
		if !rootsRight(c.Roots) {
			return api.ErrRoot
		}
		if e := codeRight(c.Code, len(m.Gates)); e != api.OK {
			return e
		}
	}
	return api.OK
}

func rootsRight(l []api.Root) bool {
	last := api.Roots - 1
	for _, r := range l {
		if r.Reg <= last || r.Reg >= api.Regs || !dataCap(r.Cap) {
			return false
		}
		last = r.Reg
	}
	return true
}

func codeRight(code []api.Inst, gates int) api.Errno {
	if len(code) < 1 || len(code) > api.MaxCode {
		return api.ErrCount
	}
	for _, i := range code {
		if e := instr.Right(i); e != api.OK {
			return e
		}
		if !targetThere(i, len(code), gates) {
			return api.ErrTarget
		}
	}
	return api.OK
}

// targetThere tells whether what an instruction goes to is there. The instruction is right, so no target is below 0.
func targetThere(i api.Inst, code int, gates int) bool {
	switch i.Op {
	case api.JMP, api.BEQ, api.BNE, api.BLT, api.BGE, api.CPC:
		return i.Imm < code
	case api.CALL:
		return i.Imm < gates
	}
	return true
}

func gatesRight(m api.Image) api.Errno {
	for _, g := range m.Gates {
		if !hasInst(m, g.Comp, g.Entry) || len(g.Args) > api.MaxArgs || len(g.Results) > api.MaxArgs {
			return api.ErrGate
		}
		if !typesRight(g.Args) || !typesRight(g.Results) {
			return api.ErrType
		}
	}
	return api.OK
}

func hasInst(m api.Image, comp int, pc int) bool {
	return 0 <= comp && comp < len(m.Comps) && 0 <= pc && pc < len(m.Comps[comp].Code)
}

func typesRight(l []api.Type) bool {
	for _, t := range l {
		if !typeRight(t) {
			return false
		}
	}
	return true
}

func typeRight(t api.Type) bool {
	if !t.Cap {
		return t == api.Type{}
	}
	return dataCap(CapOf(t, 0)) && t.Lo <= t.Hi
}

// dataCap tells whether a program may begin with a capability: those of code come of CPC alone.
func dataCap(c api.Cap) bool {
	return capword.Right(c) && c.Perms&api.Exec == 0
}

func pointsWithin(t api.Type, cursor uint64) bool {
	return t.Lo <= cursor && cursor <= t.Hi
}
