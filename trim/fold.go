package trim

import (
	"math"

	"paddock/api"
	"paddock/transfer"
)

// toldAt is what an instruction of a compartment does, by each gate that comes to it.
func toldAt(m api.Image, t api.Table, comp int, pc int) []api.Step {
	var l []api.Step
	for gate, g := range m.Gates {
		if g.Comp == comp && t[gate][pc].Live {
			l = append(l, transfer.Do(m, gate, pc, t[gate][pc]))
		}
	}
	return l
}

// folded is what an instruction becomes, of which this is told by its gates.
func folded(i api.Inst, pc int, told []api.Step) api.Inst {
	switch {
	case len(told) == 0:
		return api.Inst{Op: api.TRAP}
	case answers(i.Op):
		if n, same := agreed(told, integerIn(i.A)); same && fitsImm(n) {
			return api.Inst{Op: api.LI, A: i.A, Imm: int(n)}
		}
	case guards(i.Op):
		if v, same := agreed(told, verdict); same && v == api.Holds {
			return jump(pc + 1)
		}
	case forks(i.Op):
		if to, same := agreed(told, onlyNext); same {
			return jump(to)
		}
	}
	return i
}

func jump(to int) api.Inst { return api.Inst{Op: api.JMP, Imm: to} }

// agreed is what all of these answer to a question; false, if two answer unlike things, or one has no answer, or there is nobody to ask.
func agreed[D any, T comparable](all []D, ask func(D) (T, bool)) (T, bool) {
	var none, first T
	for k, d := range all {
		answer, has := ask(d)
		if !has || k > 0 && answer != first {
			return none, false
		}
		first = answer
	}
	return first, len(all) > 0
}

// integerIn asks for the single integer that a register is known to have where one instruction alone is next.
func integerIn(register int) func(api.Step) (int64, bool) {
	return func(d api.Step) (int64, bool) {
		if len(d.Next) != 1 {
			return 0, false
		}
		r := d.Next[0].State.Regs[register]
		return int64(r.N.Lo), r.Kind == api.AnInt && r.N.Lo == r.N.Hi
	}
}

func verdict(d api.Step) (api.Verdict, bool) { return d.Verdict, true }

func onlyNext(d api.Step) (int, bool) {
	if len(d.Next) != 1 {
		return 0, false
	}
	return d.Next[0].Pc, true
}

// fitsImm tells whether LI can have a number.
func fitsImm(n int64) bool { return math.MinInt32 <= n && n <= math.MaxInt32 }

// answers tells whether an operation does nothing but lay an answer in A that may be known ahead of time. (CADDR would do so, too, but it stays.)
func answers(op api.Op) bool {
	switch op {
	case api.CBASE, api.CEND, api.CPERM, api.CSEALED, api.CTAG, api.CSAME:
		return true
	case api.ADD, api.SUB, api.MUL, api.AND, api.OR, api.XOR, api.SHL, api.SHR, api.SLT, api.SEQ, api.ADDI, api.MOV:
		return true
	}
	return false
}

func guards(op api.Op) bool {
	switch op {
	case api.GLT, api.GGE, api.GTAG, api.GIN, api.GPERM, api.GSEAL:
		return true
	}
	return false
}

// forks tells whether what an operation goes to hangs on registers.
func forks(op api.Op) bool {
	switch op {
	case api.BEQ, api.BNE, api.BLT, api.BGE, api.JC:
		return true
	}
	return false
}
