package trim_test

import (
	"strconv"
	"strings"
	"testing"
)

// TestReckonedKnown: ADD to SHR, SLT, SEQ, ADDI and MOV of what is known.
func TestReckonedKnown(t *testing.T) {
	for op, n := range map[string]int{
		"add r4 r2 r3": 9, "sub r4 r2 r3": 3, "sub r4 r3 r2": -3, "mul r4 r2 r3": 18, "and r4 r2 r3": 2, "or r4 r2 r3": 7, "xor r4 r2 r3": 5,
		"shl r4 r2 r3": 48, "shr r4 r2 r3": 0, "shr r4 r2 r0": 6, "slt r4 r2 r3": 0, "slt r4 r3 r2": 1, "seq r4 r2 r3": 0, "seq r4 r3 r3": 1,
		"addi r4 r2 7": 13, "addi r4 r2 -7": -1, "addi r4 r0 0": 0, "mov r4 r2": 6, "mov r4 r0": 0, "mov r2 r2": 6, "add r2 r2 r2": 12, "addi r3 r3 1": 4,
	} {
		begin := "li r2 6;li r3 3;"
		register := strings.Fields(op)[1]
		checkFolds(t, alone, []row{{op, begin + op + ";ret", begin + "li " + register + " " + strconv.Itoa(n) + ";ret"}})
	}
}

// TestReckonedOfSome: what comes is known, though not all that goes in is.
func TestReckonedOfSome(t *testing.T) {
	checkFolds(t, alone, []row{
		{"MUL by 0", "mul r4 r1 r0;ret", "li r4 0;ret"},
		{"AND with 0", "and r4 r0 r1;ret", "li r4 0;ret"},
		{"SLT of 0", "slt r4 r1 r0;ret", "li r4 0;ret"},
		{"SLT of a span", "glt r1 5 0;li r2 5;slt r4 r1 r2;ret", "glt r1 5 0;li r2 5;li r4 1;ret"},
		{"SEQ of unlike spans", "glt r1 5 0;li r2 5;seq r4 r1 r2;ret", "glt r1 5 0;li r2 5;li r4 0;ret"},
		{"SHR of a span", "glt r1 8 0;li r2 3;shr r4 r1 r2;ret", "glt r1 8 0;li r2 3;li r4 0;ret"},
		{"by a guard", "glt r1 1 0;mov r2 r1;ret", "glt r1 1 0;li r2 0;ret"},
		{"by a branch", "li r3 7;bne r1 r3 4;mov r2 r1;ret;mov r2 r1;ret", "li r3 7;bne r1 r3 4;li r2 7;ret;mov r2 r1;ret"},
		{"by all ways", "beq r1 r0 3;li r2 5;jmp 4;li r2 5;mov r3 r2;ret", "beq r1 r0 3;li r2 5;jmp 4;li r2 5;li r3 5;ret"},
		{"by one way alone", "beq r1 r0 3;li r2 5;jmp 4;li r2 6;mov r3 r2;ret", "beq r1 r0 3;li r2 5;jmp 4;li r2 6;mov r3 r2;ret"},
		{"what another one laid", "addi r2 r0 1;addi r2 r2 1;addi r2 r2 1;ret", "li r2 1;li r2 2;li r2 3;ret"},
		{"in a root's register", "mov r8 r0;ctag r9 r8;ret", "li r8 0;li r9 0;ret"},
	})
}

// TestReckonedUnknown: of what is not known they stay.
func TestReckonedUnknown(t *testing.T) {
	begin := "li r2 6;li r3 3;"
	for _, op := range strings.Fields("add sub mul and or xor shl shr slt seq") {
		for _, fields := range []string{" r4 r1 r2", " r4 r2 r1", " r1 r1 r1"} {
			code := begin + op + fields + ";ret"
			checkFolds(t, alone, []row{{op, code, code}})
		}
	}
	stays := func(code string) row { return row{code, code, code} }
	checkFolds(t, alone, []row{
		stays("addi r4 r1 0;ret"), stays("addi r1 r1 1;ret"), stays("mov r4 r1;ret"), stays("mov r1 r1;ret"), stays("in r2;mov r3 r2;ret"), stays("lb r2 r8 0;addi r3 r2 1;ret"),
		stays("glt r1 2 0;mov r3 r1;ret"), stays("li r2 5;addi r2 r2 -1;bne r2 r0 1;halt r2"),
	})
}

// TestMovOfCapability: it stays, as what is known is no integer; also where all of it is known.
func TestMovOfCapability(t *testing.T) {
	stays := func(code string) row { return row{code, code, code} }
	checkFolds(t, alone, []row{
		stays("mov r4 r8;ret"), stays("mov r8 r8;ret"), stays("mov r4 r11;ret"), stays("cpc r2 0;mov r3 r2;ret"), stays("lc r2 r9 0;mov r3 r2;ret"), stays("beq r1 r0 2;mov r2 r8;mov r3 r2;ret"),
	})
}

// TestQuestionsKnown: CBASE to CSAME of what is known.
func TestQuestionsKnown(t *testing.T) {
	for op, n := range map[string]int{
		"cbase r4 r9": 64, "cbase r4 r8": 0, "cend r4 r9": 96, "cperm r4 r9": 12, "cperm r4 r8": 3, "csealed r4 r11": 5, "csealed r4 r8": 0,
		"ctag r4 r8": 1, "ctag r4 r1": 0, "ctag r4 r0": 0, "ctag r8 r8": 1,
		"csame r4 r8 r8": 1, "csame r4 r8 r9": 0, "csame r4 r8 r12": 0, "csame r4 r8 r1": 0, "csame r4 r1 r1": 0, "csame r4 r11 r11": 1, "cbase r9 r9": 64,
	} {
		register := strings.Fields(op)[1]
		checkFolds(t, alone, []row{{op, op + ";ret", "li " + register + " " + strconv.Itoa(n) + ";ret"}})
	}
	checkFolds(t, alone, []row{
		{"of a narrower one", "csetbi r6 r8 8;cbase r1 r6;cend r2 r6;candp r7 r6 w;cperm r3 r7;ret", "csetbi r6 r8 8;li r1 16;li r2 24;candp r7 r6 w;li r3 2;ret"},
		{"of a sealed one", "cseal r6 r8 r10;csealed r2 r6;ret", "cseal r6 r8 r10;li r2 5;ret"},
		{"of one that points anywhere", "cinc r6 r8 r1;cbase r2 r6;cend r3 r6;cperm r4 r6;csealed r5 r6;ctag r7 r6;ret", "cinc r6 r8 r1;li r2 0;li r3 64;li r4 3;li r5 0;li r7 1;ret"},
		{"of code", "cpc r2 1;cperm r3 r2;cbase r4 r2;ret", "cpc r2 1;li r3 16;li r4 1048576;ret"},
	})
}

// TestQuestionsUnknown: where an answer may be this or that, they stay.
func TestQuestionsUnknown(t *testing.T) {
	stays := func(what, code string) row { return row{what, code, code} }
	checkFolds(t, alone, []row{
		stays("CSAME", "cinc r6 r8 r1;csame r4 r6 r8;ret"),
		stays("CSAME of the same register", "cinc r6 r8 r1;csame r4 r6 r6;ret"),
	})
	checkFolds(t, double, []row{
		stays("CBASE", "mov r6 r8;jmp on;b: mov r6 r9;on: cbase r4 r6;ret"),
		stays("CEND", "mov r6 r8;jmp on;b: mov r6 r9;on: cend r4 r6;ret"),
		stays("CPERM", "mov r6 r8;jmp on;b: mov r6 r9;on: cperm r4 r6;ret"),
		stays("CSEALED", "mov r6 r8;jmp on;b: mov r6 r11;on: csealed r4 r6;ret"),
		stays("CSAME, by two gates", "mov r6 r8;jmp on;b: mov r6 r9;on: csame r4 r6 r8;ret"),
		{"CTAG", "mov r6 r8;jmp on;b: mov r6 r0;on: ctag r4 r6;ret", "mov r6 r8;jmp on;b: li r6 0;on: ctag r4 r6;ret"},
	})
}

// TestTwoGates: what both know to be the same; what each knows to be something else; what one alone knows.
func TestTwoGates(t *testing.T) {
	checkFolds(t, double, []row{
		{"both the same", "li r2 5;jmp on;b: li r2 5;on: mov r3 r2;ret", "li r2 5;jmp on;b: li r2 5;on: li r3 5;ret"},
		{"both, by other ways", "li r2 5;jmp on;b: li r2 4;addi r2 r2 1;on: addi r3 r2 -2;ret", "li r2 5;jmp on;b: li r2 4;li r2 5;on: li r3 3;ret"},
		{"what comes is the same, though what goes in is not", "li r2 5;jmp on;b: li r2 6;on: slt r3 r0 r2;ret", "li r2 5;jmp on;b: li r2 6;on: li r3 1;ret"},
		{"the first one alone", "li r2 5;jmp on;b: in r2;on: mov r3 r2;ret", "li r2 5;jmp on;b: in r2;on: mov r3 r2;ret"},
		{"the second one alone", "in r2;jmp on;b: li r2 5;on: mov r3 r2;ret", "in r2;jmp on;b: li r2 5;on: mov r3 r2;ret"},
		{"an integer and a capability", "li r2 5;jmp on;b: mov r2 r8;on: mov r3 r2;ret", "li r2 5;jmp on;b: mov r2 r8;on: mov r3 r2;ret"},
		{"0 and a capability", "jmp on;b: mov r2 r8;on: mov r3 r2;ret", "jmp on;b: mov r2 r8;on: mov r3 r2;ret"},
		{"of unlike capabilities the same", "mov r6 r8;jmp on;b: mov r6 r12;on: cend r4 r6;ret", "mov r6 r8;jmp on;b: mov r6 r12;on: li r4 64;ret"},
		{"0 and 2^64 - 1", "jmp on;b: li r2 -1;on: mov r3 r2;ret", "jmp on;b: li r2 -1;on: mov r3 r2;ret"},
		{"alike in their lowest 32 bits", "li r2 5;jmp on;b: li r2 1;li r4 32;shl r2 r2 r4;addi r2 r2 5;on: mov r3 r2;ret", "li r2 5;jmp on;b: li r2 1;li r4 32;shl r2 r2 r4;addi r2 r2 5;on: mov r3 r2;ret"},
	})
	three := func(code string) string { return double(code) + ";gate i 0 c int ->" }
	checkFolds(t, three, []row{
		{"three the same", "li r2 5;jmp on;b: li r2 5;jmp on;c: li r2 5;on: mov r3 r2;ret", "li r2 5;jmp on;b: li r2 5;jmp on;c: li r2 5;on: li r3 5;ret"},
		{"the third one else", "li r2 5;jmp on;b: li r2 5;jmp on;c: li r2 6;on: mov r3 r2;ret", "li r2 5;jmp on;b: li r2 5;jmp on;c: li r2 6;on: mov r3 r2;ret"},
		{"the first one else", "li r2 6;jmp on;b: li r2 5;jmp on;c: li r2 5;on: mov r3 r2;ret", "li r2 6;jmp on;b: li r2 5;jmp on;c: li r2 5;on: mov r3 r2;ret"},
		{"the one between does not come there", "li r2 5;jmp on;b: li r2 6;ret;c: li r2 5;on: mov r3 r2;ret", "li r2 5;jmp on;b: li r2 6;ret;c: li r2 5;on: li r3 5;ret"},
	})
}

// TestNumbersOfLI: LI has a number from -2147483648 to 2147483647, with a sign.
func TestNumbersOfLI(t *testing.T) {
	checkFolds(t, alone, []row{
		{"the greatest", "li r2 2147483646;addi r3 r2 1;ret", "li r2 2147483646;li r3 2147483647;ret"},
		{"one above", "li r2 2147483647;addi r3 r2 1;ret", "li r2 2147483647;addi r3 r2 1;ret"},
		{"the least", "li r2 -2147483647;addi r3 r2 -1;ret", "li r2 -2147483647;li r3 -2147483648;ret"},
		{"one below", "li r2 -2147483648;addi r3 r2 -1;ret", "li r2 -2147483648;addi r3 r2 -1;ret"},
		{"2^64 - 1", "addi r2 r0 -1;ret", "li r2 -1;ret"},
		{"2^32 - 1", "li r2 -1;li r3 32;shr r2 r2 r3;ret", "li r2 -1;li r3 32;shr r2 r2 r3;ret"},
		{"2^32", "li r2 1;li r3 32;shl r2 r2 r3;ret", "li r2 1;li r3 32;shl r2 r2 r3;ret"},
		{"2^63", "li r2 1;li r3 63;shl r2 r2 r3;mov r4 r2;ret", "li r2 1;li r3 63;shl r2 r2 r3;mov r4 r2;ret"},
		{"2^63 - 1", "li r2 -1;li r3 1;shr r2 r2 r3;ret", "li r2 -1;li r3 1;shr r2 r2 r3;ret"},
		{"MOV of the edges", "li r2 2147483647;mov r3 r2;li r2 -2147483648;mov r3 r2;ret", "li r2 2147483647;li r3 2147483647;li r2 -2147483648;li r3 -2147483648;ret"},
		{"MOV beyond them", "li r2 2147483647;addi r2 r2 1;mov r3 r2;addi r4 r3 -1;ret", "li r2 2147483647;addi r2 r2 1;mov r3 r2;li r4 2147483647;ret"},
	})
	rooted := func(code string) string {
		return "depth 1;comp;root r8 2147483647 4294967296 0 r 0;root r9 2147483648 2147483648 0 r 0;root r10 0 2147483647 0 r 0;" + code + ";ret;gate g 0 0 ->"
	}
	checkFolds(t, rooted, []row{
		{"bases and ends", "cbase r1 r8;cend r2 r8;cbase r3 r9;cend r4 r9;cend r5 r10", "li r1 2147483647;cend r2 r8;cbase r3 r9;cend r4 r9;li r5 2147483647"},
	})
}

// TestOthersStay: CADDR, and all else whose answer is known or not.
func TestOthersStay(t *testing.T) {
	stays := func(code string) row { return row{code, code, code} }
	checkFolds(t, alone, []row{
		stays("caddr r2 r8;ret"), stays("caddr r8 r8;ret"), stays("caddr r2 r11;halt r2"), stays("cinci r6 r8 0;caddr r2 r6;ret"),
		stays("li r2 5;li r2 -5;ret"), stays("li r0 0;ret"), stays("li r2 2147483647;ret"), stays("li r2 -2147483648;ret"),
		stays("jmp 1;jmp 3;ret;jmp 2"), stays("jmp 0"), stays("jmp 1;ret"),
		stays("glt r1 1 0;ret"), stays("in r2;out r2;out r0;halt r2"), stays("trap 0"), stays("trap 255"), stays("halt r0"),
		stays("cpc r2 0;ret"), stays("cinc r6 r8 r0;cinci r7 r8 0;csetb r6 r8 r0;csetbi r7 r8 0;candp r6 r8 rw;ret"), stays("cseal r6 r8 r10;cunseal r7 r6 r10;ret"),
		stays("lb r2 r8 0;lw r3 r8 0;sb r0 r8 0;sw r2 r8 0;lc r6 r9 0;sc r6 r9 0;ret"),
	})
	calling := func(code string) string {
		return "depth 2;comp;" + code + ";comp;li r1 7;ret;gate g 0 0 ->;gate seven 1 0 -> int"
	}
	checkFolds(t, calling, []row{
		stays("call seven;mov r2 r1;ret"),
		{"behind a CALL what is no result is known still", "li r1 3;li r2 4;call 1;mov r3 r1;mov r4 r2;ret", "li r1 3;li r2 4;call 1;mov r3 r1;li r4 4;ret"},
	})
}
