package transfer_test

import (
	"testing"

	"paddock/api"
	"paddock/transfer"
)

func TestIntegers(t *testing.T) {
	checkGoing(t, "10.3", []going{
		lays("li r1 5", nil, integer(5, 5)),
		lays("li r1 0", nil, integer(0, 0)),
		lays("li r1 -1", nil, integer(top, top)),
		lays("li r8 -2147483648", nil, integer(top-2147483647, top-2147483647)),
		lays("li r1 2147483647", regs{1: nothing()}, integer(2147483647, 2147483647)),

		lays("mov r1 r2", nil, integer(0, 2)),
		lays("mov r1 r8", nil, root()),
		lays("mov r8 r1", nil, integer(0, 1)),
		lays("mov r1 r1", nil, integer(0, 1)),
		lays("mov r1 r2", regs{2: nothing()}, nothing()),
		lays("mov r1 r2", regs{2: sealed(wide(0, 9), -1)}, sealed(wide(0, 9), -1)),

		lays("add r1 r2 r3", regs{2: integer(1, 2), 3: integer(10, 20)}, integer(11, 22)),
		lays("add r1 r2 r3", regs{2: integer(top, top), 3: integer(1, 2)}, integer(0, 1)),
		lays("add r1 r2 r3", regs{2: integer(top-1, top), 3: integer(1, 2)}, integer(0, top)),
		lays("add r1 r1 r1", regs{1: integer(3, 4)}, integer(6, 8)),
		lays("sub r1 r2 r3", regs{2: integer(10, 20), 3: integer(1, 2)}, integer(8, 19)),
		lays("sub r1 r2 r3", regs{2: integer(1, 2), 3: integer(10, 20)}, integer(top-18, top-7)),
		lays("mul r1 r2 r3", regs{2: integer(2, 3), 3: integer(5, 7)}, integer(10, 21)),
		lays("and r1 r2 r3", regs{2: integer(2, 3), 3: integer(5, 7)}, integer(0, 3)),
		lays("or r1 r2 r3", regs{2: integer(1, 4), 3: integer(2, 9)}, integer(2, 15)),
		lays("xor r1 r2 r3", regs{2: integer(1, 4), 3: integer(2, 9)}, integer(0, 15)),
		lays("shl r1 r2 r3", regs{2: integer(1, 3), 3: integer(65, 65)}, integer(2, 6)),
		lays("shr r1 r2 r3", regs{2: integer(8, 64), 3: integer(1, 2)}, integer(2, 32)),
		lays("slt r1 r2 r3", regs{2: integer(0, 4), 3: integer(5, 9)}, integer(1, 1)),
		lays("slt r1 r2 r3", regs{2: integer(0, 5), 3: integer(5, 9)}, integer(0, 1)),
		lays("seq r1 r2 r3", regs{2: integer(0, 4), 3: integer(5, 9)}, integer(0, 0)),
		lays("seq r1 r2 r3", regs{2: integer(5, 5), 3: integer(5, 5)}, integer(1, 1)),

		lays("addi r1 r2 3", regs{2: integer(1, 5)}, integer(4, 8)),
		lays("addi r1 r2 -1", regs{2: integer(1, 5)}, integer(0, 4)),
		lays("addi r1 r2 -1", regs{2: integer(0, 5)}, integer(0, top)),
		lays("addi r1 r2 -1", regs{2: integer(0, 0)}, integer(top, top)),
		lays("addi r2 r2 2147483647", regs{2: integer(1, 2)}, integer(2147483648, 2147483649)),

		lays("in r1", nil, integer(0, top)),
		lays("in r8", nil, integer(0, top)),
		leaves("out r1", nil),
		leaves("out r1", regs{1: integer(0, top)}),
	})
	checkRefusals(t, "10.3", []refusal{
		{"addi r1 r8 1", nil, api.RInt},
		{"addi r1 r2 1", regs{2: nothing()}, api.RInt},
		{"out r8", nil, api.RInt},
		{"out r1", regs{1: nothing()}, api.RInt},
	})
}

// TestIntegersAreNeeded: by each operation that reckons, in B and in C.
func TestIntegersAreNeeded(t *testing.T) {
	for _, op := range []string{"add", "sub", "mul", "and", "or", "xor", "shl", "shr", "slt", "seq"} {
		checkRefusals(t, "10.3", []refusal{
			{op + " r1 r8 r2", nil, api.RInt},
			{op + " r1 r2 r8", nil, api.RInt},
			{op + " r8 r8 r8", nil, api.RInt},
			{op + " r1 r2 r3", regs{2: nothing()}, api.RInt},
			{op + " r1 r2 r3", regs{3: nothing()}, api.RInt},
		})
		// What is known of A does not matter, nor Imm's register.
		if got := do(op+" r8 r2 r3", regs{0: nothing(), 1: nothing()}); got.Reason != api.Fine || got.Next[0].State.Regs[8].Kind != api.AnInt {
			t.Errorf("10.3: %s into a register with a capability: %+v", op, got)
		}
	}
}

// TestEachImmediate: numbers of 64 bits, which go round below 0.
func TestEachImmediate(t *testing.T) {
	for _, n := range []int{-1 << 31, -257, -1, 0, 1, 255, 65536, 1<<31 - 1} {
		want := api.Step{Next: []api.Succ{succ(at+1, regs{1: integer(uint64(n), uint64(n))})}}
		checkStep(t, "10.3: LI", transfer.Do(yard(api.Inst{Op: api.LI, A: 1, Imm: n}), inner, at, ahead(nil)), want)
		checkStep(t, "10.3: ADDI", transfer.Do(yard(api.Inst{Op: api.ADDI, A: 1, B: 0, Imm: n}), inner, at, ahead(nil)), want)
	}
}
