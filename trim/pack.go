package trim

import (
	"slices"

	"paddock/api"
)

func hasCPC(code []api.Inst) bool {
	return slices.ContainsFunc(code, func(i api.Inst) bool { return i.Op == api.CPC })
}

// takeOutIdle takes the idle instructions out of a compartment of a program that is nobody else's.
func takeOutIdle(m api.Image, comp int) {
	code := m.Comps[comp].Code
	idle := idleOf(code)
	places := placesWithout(idle)
	var packed []api.Inst
	for pc, i := range code {
		if idle[pc] {
			continue
		}
		if namesInst(i.Op) {
			i.Imm = places[i.Imm]
		}
		packed = append(packed, i)
	}
	m.Comps[comp].Code = packed
	for k, g := range m.Gates {
		if g.Comp == comp {
			m.Gates[k].Entry = places[g.Entry]
		}
	}
}

// idleOf tells of each instruction whether it goes just where the code goes on without it.
func idleOf(code []api.Inst) []bool {
	idle := make([]bool, len(code))
	busy := len(code) // the first one behind that is not idle
	for pc, i := range slices.Backward(code) {
		idle[pc] = i.Op == api.JMP && pc < i.Imm && i.Imm <= busy
		if !idle[pc] {
			busy = pc
		}
	}
	return idle
}

// placesWithout is where each instruction stands when the idle ones are out: behind as many as stand ahead of it and stay. For an idle one that is where the first one behind it stands that stays.
func placesWithout(idle []bool) []int {
	places := make([]int, len(idle))
	stay := 0
	for pc, is := range idle {
		places[pc] = stay
		if !is {
			stay++
		}
	}
	return places
}

func namesInst(op api.Op) bool {
	switch op {
	case api.JMP, api.BEQ, api.BNE, api.BLT, api.BGE:
		return true
	}
	return false
}
