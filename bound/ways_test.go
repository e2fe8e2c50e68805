package bound_test

import (
	"fmt"
	"strings"
	"testing"

	"paddock/api"
	"paddock/image"
	"paddock/instr"
)

// TestRounds: those that the gate comes to, and those that it does not come to.
func TestRounds(t *testing.T) {
	for _, x := range []struct {
		what, code string
		want       api.Cost
	}{
		{"to itself", "jmp 0", unknown},
		{"to itself, behind others", "li r1 1;in r1;jmp 2", unknown},
		{"to itself, or on", "beq r1 r0 0;ret", unknown},
		{"to itself, or behind the code", "bne r1 r0 0", unknown},
		{"to itself at the end, or behind the code", "li r1 1;blt r1 r0 1", unknown},
		{"two", "li r1 1;jmp 0", unknown},
		{"to the front", "in r1;out r1;bge r1 r0 0;ret", unknown},
		{"into the midst", "in r1;out r1;bge r1 r0 1;ret", unknown},
		{"forth and back", "jmp 2;ret;bne r1 r0 1;jmp 2", unknown},
		{"by two jumps", "jmp 2;jmp 0;jmp 1", unknown},
		{"come to by a branch alone", "beq r1 r0 2;ret;jmp 2", unknown},
		{"come to by the way behind a branch alone", "beq r1 r0 3;li r1 1;jmp 1;ret", unknown},
		{"come to by a jump back", "jmp 3;jmp 1;ret;jmp 1", unknown},
		{"a way out of it", "li r1 1;beq r1 r0 4;addi r1 r1 1;jmp 1;halt r1", unknown},
		{"behind a halt", "halt r1;jmp 1", cost(1, 0, 0)},
		{"behind a ret", "in r1;ret;jmp 1", cost(2, 0, 1)},
		{"behind a trap", "trap 5;jmp 0", cost(1, 0, 0)},
		{"behind a trap, through it", "trap 5;beq r1 r0 0", cost(1, 0, 0)},
		{"jumped over", "jmp 2;jmp 1;ret", cost(2, 0, 0)},
		{"branched over", "beq r1 r0 4;li r1 1;ret;jmp 3;halt r0", cost(3, 0, 0)},
		{"back, but not round", "jmp 3;in r1;ret;jmp 1", cost(4, 0, 1)},
		{"back twice, but not round", "jmp 4;in r1;ret;jmp 1;out r1;jmp 3", cost(6, 0, 1)},
		{"a branch back, but not round", "jmp 3;in r1;ret;beq r1 r0 1;ret", cost(4, 0, 1)},
	} {
		check(t, "a round: "+x.what, program(t, x.code), 0, x.want, 0)
	}
}

// TestEntryAtTheMidst: what can be come to hangs on where the gate's entry is.
func TestEntryAtTheMidst(t *testing.T) {
	m := gated(t, []string{"in r1;bne r1 r0 0;in r2;out r2;ret;jmp 2;jmp 6"}, "0 0", "0 1", "0 2", "0 3", "0 4", "0 5", "0 6")
	for gate, want := range []api.Cost{unknown, unknown, cost(3, 0, 1), cost(2, 0, 0), cost(1, 0, 0), cost(4, 0, 1), unknown} {
		check(t, "an entry at the midst", m, gate, want, 0)
	}
	m = gated(t, []string{"call 3;ret;in r1;call 2;ret;call 2;in r1", "in r2;halt r2"}, "0 0", "0 2", "1 0", "0 5", "0 6")
	for gate, want := range []api.Cost{cost(7, 2, 2), cost(5, 1, 2), cost(2, 0, 1), cost(5, 1, 2), cost(2, 0, 1)} {
		check(t, "two gates of one compartment", m, gate, want, int(want.Calls))
	}
}

// TestBranches: ways that part and meet again.
func TestBranches(t *testing.T) {
	for _, x := range []struct {
		what, code string
		want       api.Cost
	}{
		{"to the one behind it", "beq r1 r0 1;ret", cost(2, 0, 0)},
		{"to the one behind it, each", "beq r1 r0 1;bne r1 r0 2;blt r1 r0 3;bge r1 r0 4;ret", cost(5, 0, 0)},
		{"to the one behind it, an input", "beq r1 r0 1;in r1", cost(3, 0, 1)},
		{"over one", "beq r1 r0 2;in r1;ret", cost(3, 0, 1)},
		{"the branch is longer", "beq r1 r0 2;ret;in r1;out r1;ret", cost(4, 0, 1)},
		{"the way behind is longer", "beq r1 r0 4;in r1;out r1;ret;ret", cost(4, 0, 1)},
		{"more steps here, more inputs there", "beq r1 r0 5;li r1 1;li r1 1;li r1 1;jmp 7;in r1;in r1;ret", cost(6, 0, 2)},
		{"more inputs here, more steps there", "beq r1 r0 4;in r1;in r1;jmp 8;li r1 1;li r1 1;li r1 1;li r1 1;ret", cost(6, 0, 2)},
		{"twice, the one and the other", "beq r1 r0 4;li r1 1;li r1 1;jmp 5;in r1;beq r1 r0 9;li r1 1;li r1 1;jmp 11;in r1;in r1;ret", cost(9, 0, 3)},
		{"one ends, with inputs", "beq r1 r0 4;in r1;in r1;ret;li r1 1;li r1 1;li r1 1;li r1 1;ret", cost(6, 0, 2)},
		{"one ends at once", "bne r1 r0 3;in r1;halt r1;trap 1", cost(3, 0, 1)},
		{"three ways", "beq r1 r0 4;blt r1 r0 7;in r1;ret;li r1 1;li r1 1;ret;out r1;in r1;in r1", cost(6, 0, 2)},
	} {
		check(t, "a branch: "+x.what, program(t, x.code), 0, x.want, 0)
	}
}

// TestMidst: what ends, and what may go anywhere, in the midst.
func TestMidst(t *testing.T) {
	for _, x := range []struct {
		code string
		want api.Cost
	}{
		{"in r1;halt r1;in r1;in r1", cost(2, 0, 1)},
		{"in r1;trap 3;in r1;in r1", cost(2, 0, 1)},
		{"in r1;ret;in r1;in r1", cost(2, 0, 1)},
		{"in r1;jc r1;in r1;in r1", unknown},
		{"in r1;jc r1;ret", unknown},
		{"jc r1;halt r1", unknown},
		{"in r1;halt r1", cost(2, 0, 1)},
		{"in r1;trap 3", cost(2, 0, 1)},
		{"in r1;ret", cost(2, 0, 1)},
		{"in r1;jc r1", unknown},
		{"jc r1", unknown},
		{"halt r1", cost(1, 0, 0)},
		{"trap 0", cost(1, 0, 0)},
		{"ret", cost(1, 0, 0)},
		{"ret;jc r1", cost(1, 0, 0)},
		{"jmp 2;jc r1;halt r1", cost(2, 0, 0)},
		{"beq r1 r0 2;jc r1;halt r1", unknown},
		{"beq r1 r0 2;halt r1;jc r1", unknown},
	} {
		check(t, x.code, program(t, x.code), 0, x.want, 0)
	}
}

// eachOp are all operations, as right instructions: those that go somewhere go to the target, CALL calls the gate 1.
func eachOp(target int) []api.Inst {
	var l []api.Inst
	for n := range 256 {
		i := api.Inst{Op: api.Op(n)}
		if instr.Name(i.Op) == "" {
			continue
		}
		switch shape := instr.Shape(i.Op); {
		case strings.Contains(shape, "t"):
			i.Imm = target
		case strings.Contains(shape, "g"):
			i.Imm = 1
		}
		l = append(l, i)
	}
	return l
}

func isBranch(op api.Op) bool { return op >= api.BEQ && op <= api.BGE }

func isEnd(op api.Op) bool { return op == api.HALT || op == api.TRAP || op == api.RET }

// TestLastOfEachKind: each operation as the last instruction. It overruns, but for those that never go on behind it.
func TestLastOfEachKind(t *testing.T) {
	seen := 0
	for _, i := range eachOp(1) {
		seen++
		// From the entry over what lies between to the last one; that may go back there, which is no round.
		m := program(t, "jmp 4;in r1;in r1;ret;out r1;nop", "in r1;in r1;out r1;ret")
		m.Comps[0].Code[5] = i
		if e := image.Right(m); e != api.OK {
			t.Fatalf("%s: %d", instr.Name(i.Op), e)
		}
		want, deep := cost(4, 0, 0), 0
		switch {
		case i.Op == api.JC:
			want = unknown
		case isEnd(i.Op):
			want = cost(3, 0, 0)
		case i.Op == api.JMP || isBranch(i.Op):
			want = cost(6, 0, 2)
		case i.Op == api.CALL:
			want, deep = cost(8, 1, 2), 1
		case i.Op == api.IN:
			want.Inputs = 1
		}
		check(t, "as the last one: "+instr.Name(i.Op), m, 0, want, deep)
	}
	if seen < 50 {
		t.Errorf("%d operations", seen)
	}
}

// TestEachKindAlone: each operation as the only instruction, where those that go somewhere go to themselves.
func TestEachKindAlone(t *testing.T) {
	for _, i := range eachOp(0) {
		m := program(t, "nop", "in r1;in r1;out r1;ret")
		m.Comps[0].Code[0] = i
		want, deep := cost(2, 0, 0), 0
		switch {
		case i.Op == api.JMP || i.Op == api.JC || isBranch(i.Op):
			want = unknown
		case isEnd(i.Op):
			want = cost(1, 0, 0)
		case i.Op == api.CALL:
			want, deep = cost(6, 1, 2), 1
		case i.Op == api.IN:
			want.Inputs = 1
		}
		check(t, "alone: "+instr.Name(i.Op), m, 0, want, deep)
	}
}

// TestMidstOfEachKind: each operation in the midst, where those that go somewhere go to the one behind.
func TestMidstOfEachKind(t *testing.T) {
	for _, i := range eachOp(2) {
		m := program(t, "out r1;nop;out r1;ret", "in r1;in r1;out r1;ret")
		m.Comps[0].Code[1] = i
		want, deep := cost(4, 0, 0), 0
		switch {
		case i.Op == api.JC:
			want = unknown
		case isEnd(i.Op):
			want = cost(2, 0, 0)
		case i.Op == api.CALL:
			want, deep = cost(8, 1, 2), 1
		case i.Op == api.IN:
			want.Inputs = 1
		}
		check(t, "in the midst: "+instr.Name(i.Op), m, 0, want, deep)
	}
}

// TestOverruns: the step behind the code is one of that way alone which comes there.
func TestOverruns(t *testing.T) {
	for _, x := range []struct {
		code string
		want api.Cost
	}{
		{"glt r1 5 1", cost(2, 0, 0)},
		{"in r1", cost(2, 0, 1)},
		{"nop;nop;out r1", cost(4, 0, 0)},
		{"jmp 2;ret;beq r1 r0 1", cost(3, 0, 0)},
		{"jmp 3;in r1;ret;beq r1 r0 1", cost(4, 0, 1)},
		{"beq r1 r0 2;ret;nop", cost(3, 0, 0)},
		{"beq r1 r0 6;nop;nop;nop;nop;ret;nop", cost(6, 0, 0)},
		{"beq r1 r0 5;nop;nop;nop;ret;nop", cost(5, 0, 0)},
		{"beq r1 r0 4;nop;nop;ret;nop", cost(4, 0, 0)},
		{"ret;nop", cost(1, 0, 0)},
		{"jmp 2;nop;ret", cost(2, 0, 0)},
	} {
		check(t, "overruns: "+x.code, program(t, x.code), 0, x.want, 0)
	}
}

// TestCalledOverruns: the step behind the code counts in the gate whose code it is; what called it goes on all the same.
func TestCalledOverruns(t *testing.T) {
	m := program(t, "call 1;call 2;call 1", "in r1", "out r1;call 1")
	for gate, want := range []api.Cost{cost(13, 2, 3), cost(2, 0, 1), cost(5, 1, 1)} {
		check(t, fmt.Sprint("calls that overrun, from ", gate), m, gate, want, int(want.Calls))
	}
	// A way that is over in the called gate is counted as if it came back.
	m = program(t, "call 1;in r1;call 2;ret", "halt r1", "trap 1")
	check(t, "calls of what ends", m, 0, cost(6, 1, 1), 1)
}
