package trim_test

import "testing"

// TestGuardsHold: one that holds for all gates becomes JMP to the instruction behind it, without the code.
func TestGuardsHold(t *testing.T) {
	for _, g := range []string{
		"glt r0 1 9", "glt r2 6 255", "glt r2 2147483647 0", "gge r2 5 9", "gge r2 0 1", "gge r1 0 1", "gtag r8 9", "gtag r11 0",
		"gin r8 48 9", "gin r8 0 9", "gin r12 0 1", "gperm r8 rw 9", "gperm r8 - 9", "gperm r11 r 3", "gseal r8 0 9", "gseal r11 5 9",
	} {
		checkFolds(t, alone, []row{{g, "li r2 5;" + g + ";out r2;ret", "li r2 5;jmp 2;out r2;ret"}})
	}
	checkFolds(t, alone, []row{
		{"the first", "gtag r8 1;ret", "jmp 1;ret"},
		{"a row of them", "glt r0 1 1;gge r0 0 2;gtag r8 3;gin r8 1 4;gperm r8 r 5;gseal r8 0 6;ret", "jmp 1;jmp 2;jmp 3;jmp 4;jmp 5;jmp 6;ret"},
		{"the second of two", "glt r1 9 5;glt r1 9 6;glt r1 2 7;ret", "glt r1 9 5;jmp 2;glt r1 2 7;ret"},
		{"in a short round", "li r2 4;glt r2 5 1;addi r2 r2 -1;glt r2 4 7;bne r2 r0 1;ret", "li r2 4;jmp 2;addi r2 r2 -1;jmp 4;bne r2 r0 1;ret"},
		{"in a round that is widened", "li r2 40;glt r2 41 1;addi r2 r2 -1;glt r2 41 7;bne r2 r0 1;ret", "li r2 40;jmp 2;addi r2 r2 -1;glt r2 41 7;bne r2 r0 1;ret"},
		{"by a branch", "li r2 9;bge r1 r2 3;glt r1 9 1;ret", "li r2 9;bge r1 r2 3;jmp 3;ret"},
	})
}

// TestGuardsFail: one that fails stays, and what stands behind it is not come to.
func TestGuardsFail(t *testing.T) {
	for _, g := range []string{
		"glt r0 0 9", "glt r2 5 255", "gge r2 6 9", "gtag r1 9", "gtag r0 1", "gin r8 49 9", "gin r11 0 9", "gin r12 1 1", "gperm r8 rc 9", "gperm r11 w 3", "gseal r8 5 9", "gseal r11 0 9", "gseal r11 4 9",
	} {
		checkFolds(t, alone, []row{{g, "li r2 5;" + g + ";out r2;ret", "li r2 5;" + g + ";trap 0;trap 0"}})
	}
}

// TestGuardsPlain: those that may hold or not stay; also where what they leave is one number alone.
func TestGuardsPlain(t *testing.T) {
	stays := func(code string) row { return row{code, code, code} }
	checkFolds(t, alone, []row{
		stays("glt r1 5 9;ret"), stays("glt r1 1 9;ret"), stays("gge r1 1 9;ret"), stays("gge r1 2147483647 9;ret"), stays("glt r1 5 9;gge r1 4 8;ret"), stays("glt r1 5 9;glt r1 4 9;ret"),
	})
}

// TestLastGuard: a guard as the last instruction.
func TestLastGuard(t *testing.T) {
	checkFolds(t, alone, []row{
		{"one that fails", "li r2 5;glt r2 5 3", "li r2 5;glt r2 5 3"},
		{"one that fails, of a capability", "gperm r8 u 3", "gperm r8 u 3"},
		{"that nobody comes to", "ret;gtag r8 3", "ret;trap 0"},
		{"one that holds, as the last but one", "gtag r8 3;halt r0", "jmp 1;halt r0"},
	})
	for _, code := range []string{"gtag r8 3", "li r2 5;glt r2 6 3", "glt r1 6 3", "gseal r11 5 3"} {
		checkRefused(t, "the last guard may hold: "+code, parse(t, alone(code)))
	}
}

// guardedBy is a code in which two gates come to a guard, each behind an instruction of its own.
func guardedBy(first, second, guard string) string {
	return first + ";jmp on;b: " + second + ";on: " + guard + ";ret"
}

// TestGuardsOfTwo: a guard must hold for all gates that come to it.
func TestGuardsOfTwo(t *testing.T) {
	both := func(first, second, guard string) row {
		return row{"for both: " + guard, guardedBy(first, second, guard), guardedBy(first, second, "jmp 4")}
	}
	stays := func(first, second, guard string) row {
		code := guardedBy(first, second, guard)
		return row{"stays: " + code, code, code}
	}
	checkFolds(t, double, []row{
		both("li r6 1", "li r6 2", "glt r6 3 9"), both("li r6 3", "li r6 2", "gge r6 2 9"), both("in r6", "li r6 2", "gge r6 0 9"),
		both("mov r6 r8", "mov r6 r9", "gtag r6 9"), both("mov r6 r8", "mov r6 r12", "gin r6 0 9"), both("mov r6 r8", "mov r6 r11", "gperm r6 r 9"), both("mov r6 r8", "mov r6 r9", "gseal r6 0 9"),
		stays("li r6 1", "li r6 3", "glt r6 3 9"), stays("li r6 4", "li r6 2", "glt r6 3 9"), stays("li r6 1", "in r6", "glt r6 3 9"), stays("in r6", "li r6 1", "glt r6 3 9"), stays("in r6", "li r6 9", "glt r6 3 9"),
		stays("li r6 3", "li r6 1", "gge r6 2 9"), stays("in r6", "li r6 3", "gge r6 2 9"), stays("li r6 3", "in r6", "gge r6 2 9"),
		stays("mov r6 r8", "li r6 7", "gtag r6 9"), stays("li r6 7", "mov r6 r8", "gtag r6 9"),
		stays("mov r6 r8", "mov r6 r11", "gin r6 1 9"), stays("mov r6 r12", "mov r6 r8", "gin r6 1 9"),
		stays("mov r6 r8", "mov r6 r9", "gperm r6 r 9"), stays("mov r6 r9", "mov r6 r8", "gperm r6 r 9"),
		stays("mov r6 r8", "mov r6 r11", "gseal r6 0 9"), stays("mov r6 r8", "mov r6 r11", "gseal r6 5 9"),
	})
	checkFolds(t, double, []row{
		{"for none", guardedBy("li r6 5", "li r6 6", "glt r6 3 9"), "li r6 5;jmp on;b: li r6 6;on: glt r6 3 9;trap 0"},
		{"for none, of capabilities", guardedBy("mov r6 r8", "mov r6 r12", "gseal r6 2 9"), "mov r6 r8;jmp on;b: mov r6 r12;on: gseal r6 2 9;trap 0"},
		{"for the one that comes", "li r6 1;jmp on;b: ret;on: glt r6 3 9;ret", "li r6 1;jmp on;b: ret;on: jmp 4;ret"},
	})
}
