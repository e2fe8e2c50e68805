package trim_test

import (
	"strings"
	"testing"
)

// TestBranchesTaken: what is always taken becomes JMP to where it goes.
func TestBranchesTaken(t *testing.T) {
	for _, b := range []string{"beq r2 r2", "beq r0 r5", "beq r2 r4", "bne r2 r0", "bne r2 r3", "blt r2 r3", "blt r0 r2", "bge r3 r2", "bge r2 r2", "bge r2 r4", "bge r1 r0"} {
		checkFolds(t, alone, []row{
			{b + " forth", "li r2 5;li r3 6;li r4 5;" + b + " 5;out r2;ret", "li r2 5;li r3 6;li r4 5;jmp 5;trap 0;ret"},
			{b + " back", "jmp 2;ret;li r2 5;li r3 6;li r4 5;" + b + " 1;out r2", "jmp 2;ret;li r2 5;li r3 6;li r4 5;jmp 1;trap 0"},
			{b + " as the last", "jmp 2;ret;li r2 5;li r3 6;li r4 5;" + b + " 1", "jmp 2;ret;li r2 5;li r3 6;li r4 5;jmp 1"},
			{b + " to itself", "li r2 5;li r3 6;li r4 5;" + b + " 3;ret", "li r2 5;li r3 6;li r4 5;jmp 3;trap 0"},
		})
	}
}

// TestBranchesNotTaken: what is never taken becomes JMP to the instruction behind it.
func TestBranchesNotTaken(t *testing.T) {
	for _, b := range []string{"beq r2 r3", "beq r0 r2", "bne r2 r2", "bne r0 r5", "bne r2 r4", "blt r3 r2", "blt r2 r2", "blt r2 r4", "blt r1 r0", "bge r2 r3", "bge r0 r2"} {
		checkFolds(t, alone, []row{
			{b + " forth", "li r2 5;li r3 6;li r4 5;" + b + " 6;out r2;ret;out r3", "li r2 5;li r3 6;li r4 5;jmp 4;out r2;ret;trap 0"},
			{b + " back", "li r2 5;li r3 6;li r4 5;" + b + " 0;out r2;ret", "li r2 5;li r3 6;li r4 5;jmp 4;out r2;ret"},
			{b + " to itself", "li r2 5;li r3 6;li r4 5;" + b + " 3;ret", "li r2 5;li r3 6;li r4 5;jmp 4;ret"},
		})
	}
}

// TestBranchesOpen: where both ways are open they stay, but where both are one.
func TestBranchesOpen(t *testing.T) {
	for _, op := range strings.Fields("beq bne blt bge") {
		for _, fields := range []string{" r1 r2 ", " r2 r1 ", " r1 r1 "} {
			b := op + fields
			stays := func(code string) row { return row{code, code, code} }
			checkFolds(t, alone, []row{
				stays("li r2 5;" + b + "3;out r2;ret"), stays("li r2 5;" + b + "0;ret"), stays("li r2 5;" + b + "1;ret"),
				{b + "to the one behind it", "li r2 5;" + b + "2;out r2;ret", "li r2 5;jmp 2;out r2;ret"},
			})
		}
	}
	checkFolds(t, alone, []row{
		{"to the one behind it, taken", "beq r0 r0 1;ret", "jmp 1;ret"},
		{"to the one behind it, not taken", "bne r0 r0 1;ret", "jmp 1;ret"},
		{"by a guard ahead", "glt r1 5 9;li r2 5;blt r1 r2 4;out r2;ret", "glt r1 5 9;li r2 5;jmp 4;trap 0;ret"},
		{"by a branch ahead", "beq r1 r0 4;beq r1 r0 3;ret;out r1;ret", "beq r1 r0 4;jmp 2;ret;trap 0;ret"},
		{"what is known is not lost behind it", "li r2 5;blt r1 r2 2;glt r1 5 9;ret", "li r2 5;jmp 2;glt r1 5 9;ret"},
		{"nobody comes to it", "ret;beq r0 r0 0;bne r0 r0 0;ret", "ret;trap 0;trap 0;trap 0"},
		{"a round that counts", "li r2 3;addi r2 r2 -1;bne r2 r0 1;beq r2 r0 5;trap 1;ret", "li r2 3;addi r2 r2 -1;bne r2 r0 1;jmp 5;trap 0;ret"},
	})
}

// branchedBy is a code in which two gates come to a branch over `out r2`, each behind an instruction of its own.
func branchedBy(first, second, branch string) string {
	return first + ";jmp on;b: " + second + ";on: " + branch + ";out r2;ret"
}

// TestBranchesOfTwo: the same instruction must be next for all gates.
func TestBranchesOfTwo(t *testing.T) {
	stays := func(first, second, branch string) row {
		code := branchedBy(first, second, branch)
		return row{"stays: " + code, code, code}
	}
	checkFolds(t, double, []row{
		{"both taken", branchedBy("li r2 5", "li r2 6", "bne r2 r0 5"), "li r2 5;jmp on;b: li r2 6;on: jmp 5;trap 0;ret"},
		{"both not", branchedBy("li r2 5", "li r2 6", "beq r2 r0 5"), "li r2 5;jmp on;b: li r2 6;on: jmp 4;out r2;ret"},
		{"two ways that are one", branchedBy("li r2 5", "li r2 0", "beq r2 r0 4"), "li r2 5;jmp on;b: li r2 0;on: jmp 4;out r2;ret"},
		{"the other one does not come", "li r2 5;jmp on;b: ret;on: beq r2 r0 5;out r2;ret", "li r2 5;jmp on;b: ret;on: jmp 4;out r2;ret"},
		stays("li r2 5", "li r2 0", "beq r2 r0 5"), stays("li r2 0", "li r2 5", "beq r2 r0 5"), stays("li r2 5", "li r2 0", "bne r2 r0 5"),
		stays("li r2 5", "li r2 0", "blt r0 r2 5"), stays("li r2 5", "li r2 0", "bge r0 r2 5"),
		stays("in r2", "li r2 0", "beq r2 r0 5"), stays("li r2 5", "in r2", "beq r2 r0 5"), stays("in r2", "in r2", "blt r2 r1 5"),
	})
}

// TestJC: one that goes to the same instruction by all gates becomes JMP to that; it stays where two go to two.
func TestJC(t *testing.T) {
	checkFolds(t, alone, []row{
		{"forth", "cpc r2 3;jc r2;trap 7;ret", "cpc r2 3;jmp 3;trap 0;ret"},
		{"back", "jmp 2;ret;cpc r2 1;jc r2", "jmp 2;ret;cpc r2 1;jmp 1"},
		{"to itself", "cpc r2 1;jc r2;ret", "cpc r2 1;jmp 1;trap 0"},
		{"to the one behind it", "cpc r2 2;jc r2;ret", "cpc r2 2;jmp 2;ret"},
		{"further on", "cpc r2 0;cinci r3 r2 32;jc r3;ret;out r1;ret", "cpc r2 0;cinci r3 r2 32;jmp 4;trap 0;out r1;ret"},
		{"nobody comes to it", "ret;jc r2", "ret;trap 0"},
	})
	checkFolds(t, double, []row{
		{"by two, to one", "cpc r2 5;jmp on;b: cpc r2 5;on: jc r2;trap 7;ret", "cpc r2 5;jmp on;b: cpc r2 5;on: jmp 5;trap 0;ret"},
		{"by two, to two", "cpc r2 4;jmp on;b: cpc r2 5;on: jc r2;trap 7;ret", "cpc r2 4;jmp on;b: cpc r2 5;on: jc r2;trap 7;ret"},
		{"the other one does not come", "cpc r2 5;jmp on;b: ret;on: jc r2;trap 7;ret", "cpc r2 5;jmp on;b: ret;on: jmp 5;trap 0;ret"},
	})
	second := func(code string) string {
		return "depth 1;comp;ret;comp;" + code + ";gate g 0 0 ->;gate h 1 0 ->"
	}
	checkFolds(t, second, []row{{"of the second compartment", "cpc r2 3;jc r2;trap 7;ret", "cpc r2 3;jmp 3;trap 0;ret"}})
}
