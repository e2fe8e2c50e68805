package transfer

import (
	"strings"

	"paddock/api"
	"paddock/instr"
	"paddock/regtype"
	"paddock/span"
)

// spot is an instruction that is asked for: where in a program it stands, and what is known ahead of it.
type spot struct {
	program api.Image
	gate    api.Gate // the one by which the compartment was come in
	code    []api.Inst
	pc      int
	inst    api.Inst
	known   api.State
}

// gateThere tells whether there is such a gate, and its compartment.
func gateThere(m api.Image, gate int) bool {
	return within(gate, m.Gates) && within(m.Gates[gate].Comp, m.Comps)
}

// instThere tells whether there is such an instruction, one that is right, and what it names.
func instThere(m api.Image, gate int, pc int) bool {
	if !gateThere(m, gate) {
		return false
	}
	code := m.Comps[m.Gates[gate].Comp].Code
	return within(pc, code) && instr.Right(code[pc]) == api.OK && namedThere(m, code, code[pc])
}

// namedThere tells whether the instruction, or the gate, that an instruction names is there.
func namedThere(m api.Image, code []api.Inst, i api.Inst) bool {
	shape := instr.Shape(i.Op)
	switch {
	case strings.Contains(shape, "t"):
		return within(i.Imm, code)
	case strings.Contains(shape, "g"):
		return within(i.Imm, m.Gates)
	}
	return true
}

// within tells whether a list has an element of a number.
func within[T any](n int, l []T) bool { return 0 <= n && n < len(l) }

// operand is what is known of what an instruction reckons with.
type operand func() api.RType

func (x *spot) a() api.RType { return x.known.Regs[x.inst.A] }

func (x *spot) b() api.RType { return x.known.Regs[x.inst.B] }

func (x *spot) c() api.RType { return x.known.Regs[x.inst.C] }

// imm is Imm, as a register would hold it.
func (x *spot) imm() api.RType { return regtype.Int(span.Of(uint64(x.inst.Imm))) }

// handed is what is known where values of these types were laid in r1 and the next ones, as far as there are registers.
func handed(s api.State, types []api.Type) api.State {
	for k, t := range types[:min(len(types), api.Regs-1)] {
		s.Regs[1+k] = regtype.Of(t)
	}
	return s
}

// sure tells whether r1 and the next ones are surely of these types.
func sure(s api.State, types []api.Type) bool {
	for k, t := range types {
		if 1+k >= api.Regs || !regtype.Sure(s.Regs[1+k], t) {
			return false
		}
	}
	return true
}
