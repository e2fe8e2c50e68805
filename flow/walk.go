package flow

import (
	"slices"

	"paddock/api"
)

const (
	nobody = -1

	// deepest is how often the walk may stand within itself. What lies deeper waits, so that no code, however long, takes more stack than this.
	deepest = 1000
)

// comeTo is what can be come to from the entries, if one instruction (or nobody) is taken out of the code. That one is in the set.
func comeTo(code []api.Inst, entries []int, without int) set[int] {
	seen := newSet[int](len(code))
	// What was seen is not gone to any more, nor on from.
	seen.add(without)
	waiting := slices.Clone(entries)
	var walk func(pc int, depth int)
	walk = func(pc int, depth int) {
		if depth == deepest {
			waiting = append(waiting, pc)
			return
		}
		for seen.add(pc) {
			switch wayOf(code[pc].Op) {
			case ends:
				return
			case anywhere:
				seen.fill()
				return
			case jumps:
				pc = code[pc].Imm
			case branches:
				walk(code[pc].Imm, depth+1)
				pc++
			default:
				pc++
			}
		}
	}
	for len(waiting) > 0 {
		last := len(waiting) - 1
		pc := waiting[last]
		waiting = waiting[:last]
		walk(pc, 0)
	}
	return seen
}
