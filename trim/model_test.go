package trim_test

import (
	"slices"
	"strings"

	"paddock/api"
	"paddock/checker"
	"paddock/image"
	"paddock/instr"
	"paddock/regtype"
	"paddock/span"
	"paddock/transfer"
)

// isOneOf tells whether an operation's name is among these.
func isOneOf(op api.Op, names string) bool {
	return slices.Contains(strings.Fields(names), instr.Name(op))
}

const (
	answering = "cbase cend cperm csealed ctag csame add sub mul and or xor shl shr slt seq addi mov"
	guarding  = "glt gge gtag gin gperm gseal"
	forking   = "beq bne blt bge jc"
	naming    = "jmp beq bne blt bge"
)

// becomes is a plain reading of 19.1: by which rule an instruction becomes what.
func becomes(m api.Image, t api.Table, comp int, pc int) (int, api.Inst) {
	var all []api.Step
	for gate := range m.Gates {
		if m.Gates[gate].Comp == comp && t[gate][pc].Live {
			all = append(all, transfer.Do(m, gate, pc, t[gate][pc]))
		}
	}
	each := func(is func(api.Step) bool) bool {
		return !slices.ContainsFunc(all, func(d api.Step) bool { return !is(d) })
	}
	i := m.Comps[comp].Code[pc]
	if len(all) == 0 {
		return 1, api.Inst{Op: api.TRAP}
	}
	if isOneOf(i.Op, answering) {
		n := all[0].Next[0].State.Regs[i.A].N.Lo
		isN := func(d api.Step) bool { return d.Next[0].State.Regs[i.A] == regtype.Int(span.Of(n)) }
		if each(isN) && (n < 1<<31 || n >= top-(1<<31)+1) {
			return 2, api.Inst{Op: api.LI, A: i.A, Imm: int(n)}
		}
	}
	if isOneOf(i.Op, guarding) && each(func(d api.Step) bool { return d.Verdict == api.Holds }) {
		return 3, api.Inst{Op: api.JMP, Imm: pc + 1}
	}
	if isOneOf(i.Op, forking) && each(func(d api.Step) bool { return len(d.Next) == 1 && d.Next[0].Pc == all[0].Next[0].Pc }) {
		return 4, api.Inst{Op: api.JMP, Imm: all[0].Next[0].Pc}
	}
	return 5, i
}

// rule is what of 19.1 was done to which operation.
type rule struct {
	number int
	op     api.Op
}

// foldBy is Fold by that reading; seen counts the rules.
func foldBy(m api.Image, seen map[rule]int) (api.Image, bool) {
	if !isTaken(m) {
		return api.Image{}, false
	}
	t := checker.Check(m).Table
	f := image.Copy(m)
	for comp := range m.Comps {
		for pc, i := range m.Comps[comp].Code {
			number, now := becomes(m, t, comp, pc)
			seen[rule{number, i.Op}]++
			f.Comps[comp].Code[pc] = now
		}
	}
	return f, true
}

// isIdle is a plain reading of the words of 19.2.
func isIdle(code []api.Inst, pc int) bool {
	if code[pc].Op != api.JMP || code[pc].Imm <= pc {
		return false
	}
	for between := pc + 1; between < code[pc].Imm; between++ {
		if !isIdle(code, between) {
			return false
		}
	}
	return true
}

// standsAt is where the instruction stands that is named now by who named this one.
func standsAt(code []api.Inst, pc int) int {
	for isIdle(code, pc) {
		pc++
	}
	n := 0
	for ahead := range pc {
		if !isIdle(code, ahead) {
			n++
		}
	}
	return n
}

// mayBePacked tells whether a compartment has no CPC.
func mayBePacked(c api.Comp) bool {
	return !slices.ContainsFunc(c.Code, func(i api.Inst) bool { return i.Op == api.CPC })
}

// packBy is Pack by that reading.
func packBy(m api.Image) api.Image {
	p := image.Copy(m)
	if !isRight(m) {
		return p
	}
	for k, c := range m.Comps {
		if !mayBePacked(c) {
			continue
		}
		p.Comps[k].Code = nil
		for pc, i := range c.Code {
			if isOneOf(i.Op, naming) {
				i.Imm = standsAt(c.Code, i.Imm)
			}
			if !isIdle(c.Code, pc) {
				p.Comps[k].Code = append(p.Comps[k].Code, i)
			}
		}
		for gate, g := range m.Gates {
			if g.Comp == k {
				p.Gates[gate].Entry = standsAt(c.Code, g.Entry)
			}
		}
	}
	return p
}

// trimBy is Trim by these readings.
func trimBy(m api.Image) (api.Image, bool) {
	f, ok := foldBy(m, map[rule]int{})
	if !ok {
		return api.Image{}, false
	}
	if p := packBy(f); isTaken(p) {
		return p, true
	}
	return f, true
}
