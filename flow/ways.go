package flow

import (
	"slices"

	"paddock/api"
)

// A way is how the run goes on behind an instruction.
type way int

const (
	onward   way = iota // to the one behind it
	jumps               // to its target
	branches            // to the one behind it, or to its target
	anywhere            // to any one
	ends                // to none
)

func wayOf(op api.Op) way {
	switch op {
	case api.JMP:
		return jumps
	case api.BEQ, api.BNE, api.BLT, api.BGE:
		return branches
	case api.JC:
		return anywhere
	case api.HALT, api.TRAP, api.RET:
		return ends
	}
	return onward
}

func (w way) hasTarget() bool { return w == jumps || w == branches }

func there(code []api.Inst, pc int) bool { return pc >= 0 && pc < len(code) }

// thoseThere is those of some numbers that are there, each once, rising.
func thoseThere(code []api.Inst, numbers ...int) []int {
	var l []int
	for _, pc := range numbers {
		if there(code, pc) && !slices.Contains(l, pc) {
			l = append(l, pc)
		}
	}
	slices.Sort(l)
	return l
}

func allOf(code []api.Inst) []int {
	l := make([]int, len(code))
	for pc := range l {
		l[pc] = pc
	}
	return l
}
