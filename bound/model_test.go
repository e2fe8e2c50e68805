package bound_test

import (
	"slices"

	"paddock/api"
	"paddock/image"
)

// A plain reading of the chapter, word by word, without a thought of how long it takes.

// nextBy is chapter 8's Next.
func nextBy(code []api.Inst, pc int) []int {
	var l []int
	for to, i := 0, code[pc]; to < len(code); to++ {
		behind := to == pc+1
		target := to == i.Imm
		var may bool
		switch i.Op {
		case api.JMP:
			may = target
		case api.BEQ, api.BNE, api.BLT, api.BGE:
			may = behind || target
		case api.HALT, api.TRAP, api.RET:
		case api.JC:
			may = true
		default:
			may = behind
		}
		if may {
			l = append(l, to)
		}
	}
	return l
}

// from are the instructions that can be come to from some.
func from(code []api.Inst, entries ...int) []int {
	l := slices.Clone(entries)
	for k := 0; k < len(l); k++ {
		for _, to := range nextBy(code, l[k]) {
			if !slices.Contains(l, to) {
				l = append(l, to)
			}
		}
	}
	return l
}

func codeOf(m api.Image, gate int) []api.Inst { return m.Comps[m.Gates[gate].Comp].Code }

func comesTo(m api.Image, gate int) []int { return from(codeOf(m, gate), m.Gates[gate].Entry) }

func hasRound(m api.Image, gate int) bool {
	code := codeOf(m, gate)
	return slices.ContainsFunc(comesTo(m, gate), func(pc int) bool {
		return slices.Contains(from(code, nextBy(code, pc)...), pc)
	})
}

func callsOf(m api.Image, gate int) []int {
	var l []int
	for _, pc := range comesTo(m, gate) {
		if i := codeOf(m, gate)[pc]; i.Op == api.CALL {
			l = append(l, i.Imm)
		}
	}
	return l
}

// calledFrom are the gates that some call, and that these call, and so on, with those themselves.
func calledFrom(m api.Image, gates ...int) []int {
	l := slices.Clone(gates)
	for k := 0; k < len(l); k++ {
		for _, g := range callsOf(m, l[k]) {
			if !slices.Contains(l, g) {
				l = append(l, g)
			}
		}
	}
	return l
}

// callsRound tells whether a gate calls itself, by way of any gates, among those that a gate calls, and so on, and itself.
func callsRound(m api.Image, gate int) bool {
	return slices.ContainsFunc(calledFrom(m, gate), func(g int) bool {
		return slices.Contains(calledFrom(m, callsOf(m, g)...), g)
	})
}

// eachWay goes through all ways of a gate that comes to no round.
func eachWay(m api.Image, gate int, see func(way []int)) {
	code := codeOf(m, gate)
	var on func(way []int)
	on = func(way []int) {
		see(way)
		for _, to := range nextBy(code, way[len(way)-1]) {
			on(append(slices.Clone(way), to))
		}
	}
	on([]int{m.Gates[gate].Entry})
}

func overruns(code []api.Inst, way []int) bool {
	last := way[len(way)-1]
	return last == len(code)-1 && !slices.Contains([]api.Op{api.JMP, api.JC, api.HALT, api.TRAP, api.RET}, code[last].Op)
}

// costBy is 18.1.
func costBy(m api.Image, gate int) api.Cost {
	if image.Right(m) != api.OK || gate < 0 || gate >= len(m.Gates) || hasRound(m, gate) || callsRound(m, gate) {
		return unknown
	}
	c := api.Cost{Known: true}
	called := map[int]api.Cost{}
	for _, g := range callsOf(m, gate) {
		called[g] = costBy(m, g)
		if !called[g].Known {
			return unknown
		}
		c.Calls = max(c.Calls, 1+called[g].Calls)
	}
	code := codeOf(m, gate)
	eachWay(m, gate, func(way []int) {
		steps, inputs := uint64(0), uint64(0)
		for _, pc := range way {
			steps++
			switch i := code[pc]; i.Op {
			case api.CALL:
				steps += called[i.Imm].Steps
				inputs += called[i.Imm].Inputs
			case api.IN:
				inputs++
			}
		}
		if overruns(code, way) {
			steps++
		}
		c.Steps, c.Inputs = max(c.Steps, steps), max(c.Inputs, inputs)
	})
	if c.Steps > api.MaxBound {
		return unknown
	}
	return c
}

// deepBy is 18.2; endless, if there is no bound.
func deepBy(m api.Image, gate int) int {
	if image.Right(m) != api.OK || gate < 0 || gate >= len(m.Gates) || callsRound(m, gate) {
		return endless
	}
	deep := 0
	for _, g := range callsOf(m, gate) {
		deep = max(deep, 1+deepBy(m, g))
	}
	return deep
}
