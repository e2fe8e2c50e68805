package transfer

import (
	"paddock/api"
	"paddock/image"
	"paddock/regtype"
	"paddock/span"
)

func (x *spot) jumps() api.Step { return goes(x.inst.Imm, x.known) }

// branches is what goes elsewhere, where one thing is so of A and B, and on, where the opposite is.
func (x *spot) branches(taken api.Op, opposite api.Op) effect {
	return func() api.Step {
		if why := first(anInt(x.a()), anInt(x.b())); why != api.Fine {
			return refused(why)
		}
		behind, away := x.where(opposite), x.where(taken)
		if behind.Live && x.isLast() {
			return refused(api.RFall)
		}
		if x.inst.Imm == x.pc+1 {
			return goes(x.inst.Imm, regtype.JoinState(behind, away))
		}
		return api.Step{Next: thoseLive(api.Succ{Pc: x.pc + 1, State: behind}, api.Succ{Pc: x.inst.Imm, State: away})}
	}
}

// where is what is known where a branch is taken; it is not Live, if that can't be.
func (x *spot) where(taken api.Op) api.State {
	a, b, can := span.Refine(taken, x.a().N, x.b().N)
	if !can {
		return api.State{}
	}
	s := x.known
	s.Regs[x.inst.A] = regtype.Int(a)
	s.Regs[x.inst.B] = regtype.Int(b)
	return s
}

func thoseLive(all ...api.Succ) []api.Succ {
	var l []api.Succ
	for _, n := range all {
		if n.State.Live {
			l = append(l, n)
		}
	}
	return l
}

// codePoint is the capability of the instruction Imm, which is there.
func (x *spot) codePoint() api.RType { return regtype.Exact(x.codeCap(x.inst.Imm)) }

func (x *spot) codeCap(pc int) api.Cap {
	c, _ := image.CodeCap(x.program, x.gate.Comp, pc)
	return c
}

func (x *spot) jumpsByCap() api.Step {
	a := x.a()
	to, there := x.target(a)
	if why := first(aCap(a), unsealed(a), may(a, api.Exec), unless(there, api.RTarget)); why != api.Fine {
		return refused(why)
	}
	return told(goes(to, x.known), api.Goes, uint64(to))
}

// target is the instruction of this compartment to which a capability for all of its code surely points.
func (x *spot) target(a api.RType) (int, bool) {
	code := x.codeCap(x.pc)
	if a.Base != span.Of(code.Base) || a.End != span.Of(code.End) || !single(a.Point) {
		return 0, false
	}
	// What is ahead of the code goes round, and is as far behind it as can be.
	off := a.Point.Lo - code.Base
	if off >= code.End-code.Base || off%api.Width != 0 {
		return 0, false
	}
	return int(off / api.Width), true
}

func (x *spot) calls() api.Step {
	g := x.program.Gates[x.inst.Imm]
	if !sure(x.known, g.Args) {
		return refused(api.RArgs)
	}
	return x.on(handed(x.known, g.Results))
}

func (x *spot) returns() api.Step {
	if !sure(x.known, x.gate.Results) {
		return refused(api.RResult)
	}
	return ends()
}
