package flow_test

import (
	"math"
	"slices"
	"testing"

	"paddock/api"
	"paddock/flow"
)

func TestNext(t *testing.T) {
	for _, c := range []struct {
		code string
		pc   int
		want string
	}{
		{example, 0, "1"}, {example, 1, "2 4"}, {example, 2, "3"}, {example, 3, "1"}, {example, 4, ""}, {example, 5, ""},
		{example, 6, ""}, {example, -1, ""}, {example, 7, ""}, {example, -6, ""}, {example, math.MaxInt, ""}, {example, math.MinInt, ""},
		{"", 0, ""}, {"", -1, ""}, {"", 1, ""},

		{"li", 0, ""}, {"ret", 0, ""}, {"jc", 0, "0"}, {"call", 0, ""}, {"jmp", 0, "0"}, {"beq", 0, "0"}, {"jmp 1", 0, ""}, {"beq 1", 0, ""},

		{"li / jmp / li", 1, "0"}, {"li / jmp 1 / li", 1, "1"}, {"li / jmp 2 / li", 1, "2"}, {"li / jmp 3 / li", 1, ""},
		{"li / jmp -1 / li", 1, ""}, {"li / jmp least / li", 1, ""}, {"li / jmp most / li", 1, ""}, {"li / li / jmp 1", 2, "1"},

		{"li / beq 0 / li / li", 1, "0 2"}, {"li / beq 1 / li / li", 1, "1 2"}, {"li / beq 2 / li / li", 1, "2"}, {"li / beq 3 / li / li", 1, "2 3"},
		{"li / bne 4 / li / li", 1, "2"}, {"li / bne -1 / li / li", 1, "2"}, {"li / blt least / li / li", 1, "2"}, {"li / bge most / li / li", 1, "2"},
		{"li / li / bne", 2, "0"}, {"li / li / blt 2", 2, "2"}, {"li / li / bge 3", 2, ""}, {"li / li / beq -3", 2, ""},

		{"li / jc / li / ret", 1, "0 1 2 3"}, {"li / li / jc -9", 2, "0 1 2"}, {"jc 2 / li / li", 0, "0 1 2"},
		{"li / halt 1 / li", 1, ""}, {"li / trap 1 / li", 1, ""}, {"li / ret 1 / li", 1, ""},
		{"li / call 0 / li", 1, "2"}, {"li / cpc 0 / li", 1, "2"}, {"li / out / li", 1, "2"}, {"li / glt 0 / li", 1, "2"},
		{"li / 0 1 / li", 1, "2"}, {"li / 14 / li", 1, "2"}, {"li / 255 1 / li", 1, "2"}, {"li / li / 255 1", 2, ""},
	} {
		if got := flow.Next(code(c.code), c.pc); !slices.Equal(got, list(c.want)) {
			t.Errorf("8.1: Next(%s, %d) = %d, want %s", c.code, c.pc, got, c.want)
		}
	}
}

// TestNextOfEachOperation: fields other than the operation and Imm say nothing.
func TestNextOfEachOperation(t *testing.T) {
	const size, at, target = 6, 3, 1
	goesOn := map[api.Op][]int{
		api.JMP: {target}, api.BEQ: {target, at + 1}, api.BNE: {target, at + 1}, api.BLT: {target, at + 1}, api.BGE: {target, at + 1},
		api.JC: {0, 1, 2, 3, 4, 5}, api.HALT: nil, api.TRAP: nil, api.RET: nil,
	}
	for n := range 256 {
		op := api.Op(n)
		want, is := goesOn[op]
		if !is {
			want = []int{at + 1}
		}
		c := make([]api.Inst, size)
		c[at] = api.Inst{Op: op, A: 5, B: 2, C: -7, Imm: target}
		if got := flow.Next(c, at); !slices.Equal(got, want) {
			t.Errorf("8.1: Next of the operation %d: %d, want %d", n, got, want)
		}
	}
}
