package trim_test

import "testing"

// TestNoGates: what no gate comes to becomes TRAP, Imm 0, and all other fields 0, whatever it was.
func TestNoGates(t *testing.T) {
	checkFolds(t, alone, []row{
		{"a guard of a number", "ret;glt r1 5 9", "ret;trap 0"},
		{"guards", "ret;gge r1 5 9;gtag r8 3;gin r8 4 2;gperm r8 rw 6;gseal r8 0 1;ret", "ret;trap 0;trap 0;trap 0;trap 0;trap 0;trap 0"},
		{"branches", "ret;beq r1 r2 0;bne r1 r2 1;blt r1 r2 2;bge r1 r2 3;jc r8;ret", "ret;trap 0;trap 0;trap 0;trap 0;trap 0;trap 0"},
		{"JMP", "ret;jmp 0;jmp 3;jmp 3", "ret;trap 0;trap 0;trap 0"},
		{"CALL", "ret;call g;ret", "ret;trap 0;trap 0"},
		{"TRAP with another Imm", "ret;trap 7;trap 255;trap 0", "ret;trap 0;trap 0;trap 0"},
		{"with other fields", "ret;add r3 r4 r5;addi r6 r7 -9;cinc r8 r9 r10;csetbi r2 r8 17;li r15 2147483647", "ret;trap 0;trap 0;trap 0;trap 0;trap 0"},
		{"HALT, RET, IN and OUT", "ret;halt r1;ret;in r2;out r3;cpc r1 0", "ret;trap 0;trap 0;trap 0;trap 0;trap 0"},
		{"questions", "ret;cbase r1 r8;mov r2 r0;caddr r3 r8;ret", "ret;trap 0;trap 0;trap 0;trap 0"},
		{"what would fault", "ret;lb r1 r2 0;halt r8;sw r8 r8 900;gin r1 4 2;call g;li r1 1", "ret;trap 0;trap 0;trap 0;trap 0;trap 0;trap 0"},
		{"behind HALT", "halt r1;li r2 1", "halt r1;trap 0"},
		{"behind TRAP", "trap 9;li r2 1", "trap 9;trap 0"},
		{"jumped over", "jmp 2;li r2 1;ret", "jmp 2;trap 0;ret"},
		{"a round that is not left", "jmp 0;ret", "jmp 0;trap 0"},
		{"a round that nobody comes to", "ret;addi r1 r1 1;jmp 1", "ret;trap 0;trap 0"},
		{"a way that is never taken", "beq r0 r0 2;in r2;bne r0 r0 1;ret", "jmp 2;trap 0;jmp 3;ret"},
		{"behind a guard that fails", "gseal r8 3 9;ret;li r1 1", "gseal r8 3 9;trap 0;trap 0"},
		{"the first ones", "jmp 1;ret", "jmp 1;ret"},
	})
}

// TestGateElsewhere: the entry is where a gate begins, not the first instruction.
func TestGateElsewhere(t *testing.T) {
	checkFolds(t, bare("2"), []row{
		{"from 2 on", "li r1 1;addi r1 r1 1;addi r1 r1 2;ret;in r1", "trap 0;trap 0;li r1 2;ret;trap 0"},
		{"from 2 back", "addi r1 r1 1;halt r1;addi r1 r1 2;jmp 0", "li r1 3;halt r1;li r1 2;jmp 0"},
	})
}

// TestSomeGates: an instruction that one gate comes to is no TRAP, and what another gate would know of it does not matter.
func TestSomeGates(t *testing.T) {
	checkFolds(t, double, []row{
		{"each its own", "mov r2 r0;ret;b: addi r3 r0 4;ret", "li r2 0;ret;b: li r3 4;ret"},
		{"the second one alone", "ret;b: glt r0 5 1;beq r0 r1 4;trap 6;ret", "ret;b: jmp 2;beq r0 r1 4;trap 6;ret"},
		{"the first one alone", "gge r1 0 1;bne r0 r0 3;cend r4 r8;b: ret", "jmp 1;jmp 2;li r4 64;b: ret"},
		{"one goes on, the other ends", "li r2 1;b: beq r2 r0 3;halt r2;mov r3 r2;ret", "li r2 1;b: beq r2 r0 3;halt r2;li r3 0;ret"},
		{"neither", "ret;in r2;b: ret;out r1;ret", "ret;trap 0;b: ret;trap 0;trap 0"},
		{"both at one entry", "b: addi r2 r0 1;mov r3 r1;ret", "b: li r2 1;mov r3 r1;ret"},
	})
}

// TestCompartments: each one's instructions are asked by its own gates alone, whatever their numbers are.
func TestCompartments(t *testing.T) {
	whole := func(code string) string {
		return "depth 2;" + code + ";gate a 2 0 ->;gate b 0 1 int -> int;gate c 2 2 ->;gate d 0 0 ->"
	}
	checkFolds(t, whole, []row{
		{"two with gates, one without",
			"comp;li r1 3;addi r2 r1 0;mul r3 r1 r0;ret;comp;cpc r1 1;jc r1;ret;li r1 2;comp;addi r1 r0 5;call b;glt r1 9 1;slt r4 r1 r0;ret",
			"comp;li r1 3;addi r2 r1 0;li r3 0;ret;comp;trap 0;trap 0;trap 0;trap 0;comp;li r1 5;call b;glt r1 9 1;li r4 0;ret"},
		{"one that is not called",
			"comp;li r1 4;ret;comp;ret;comp;call b;halt r1;mov r2 r0;call d;out r2;ret",
			"comp;li r1 4;ret;comp;trap 0;comp;call b;halt r1;li r2 0;call d;out r2;ret"},
	})
	checkFolds(t, func(code string) string { return code }, []row{
		{"the last one alone has a gate",
			"depth 1;comp;ret;comp;jmp 0;comp;trap 3;mov r1 r0;comp;mov r1 r0;ret;trap 5;gate a 3 0 ->",
			"depth 1;comp;trap 0;comp;trap 0;comp;trap 0;trap 0;comp;li r1 0;ret;trap 0;gate a 3 0 ->"},
		{"another one's roots",
			"depth 1;comp;root r8 0 16 0 r 0;ctag r1 r8;cend r2 r8;ret;comp;ctag r1 r8;ret;gate a 0 0 ->;gate b 1 0 ->",
			"depth 1;comp;root r8 0 16 0 r 0;li r1 1;li r2 16;ret;comp;li r1 0;ret;gate a 0 0 ->;gate b 1 0 ->"},
		{"gates of other arguments",
			"depth 1;comp;mov r3 r1;mov r4 r2;ret;comp;mov r3 r1;mov r4 r2;ret;gate a 0 0 int ->;gate b 1 0 ->",
			"depth 1;comp;mov r3 r1;li r4 0;ret;comp;li r3 0;li r4 0;ret;gate a 0 0 int ->;gate b 1 0 ->"},
	})
}
