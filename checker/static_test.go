package checker_test

import (
	"strings"
	"testing"

	"paddock/api"
	"paddock/checker"
)

// field is a program with regions of bytes and of slots side by side, and roots for them; the code is that of its one compartment, its one gate takes an integer and gives one.
func field(code string) string {
	return rows("depth 2",
		"region 0 32 bytes;region 32 16 bytes",
		"region 48 48 slots;slot cap 0 16 4 4 r 0 at 4;slot cap 0 16 4 5 r 0 at 5;slot cap 0 32 0 0 rw 3 at 0",
		"region 96 16 bytes",
		"comp",
		"root r8 0 32 0 rw 0",
		"root r9 48 96 48 cd 0",
		"root r10 0 16 3 su 0",
		"root r11 0 128 32 rwcd 0",
		"root r13 0 16 4 r 0",
		"root r14 0 32 0 rw 3",
		"root r15 0 32 18446744073709551615 rw 0",
		code,
		"gate g 0 0 int -> int")
}

// pair is code that is of the static part, and code that is just not; a dash, where there is none.
type pair struct{ kept, not string }

func checkPairs(t *testing.T, promise string, l []pair) {
	t.Helper()
	for _, c := range l {
		if c.kept != "-" && !checker.Static(parse(t, field(c.kept))) {
			t.Errorf("%s: %q is not of the static part", promise, c.kept)
		}
		if c.kept != "-" {
			if r := checker.Check(parse(t, field(c.kept))); r.Reason != api.Fine {
				t.Errorf("11.6: %q is refused: %d at %d", c.kept, r.Reason, r.Pc)
			}
		}
		if c.not != "-" && checker.Static(parse(t, field(c.not))) {
			t.Errorf("%s: %q is of the static part", promise, c.not)
		}
	}
}

// TestStaticIntegers: the rows of the table that speak of integers alone.
func TestStaticIntegers(t *testing.T) {
	checkPairs(t, "11.5", []pair{
		{"li r5 1;ret", "li r6 1;ret"},
		{"li r0 -1;ret", "li r8 1;ret"},
		{"in r5;ret", "in r6;ret"},
		{"mov r5 r0;ret", "mov r5 r6;ret"},
		{"mov r0 r5;ret", "mov r6 r5;ret"},
		{"-", "mov r5 r8;ret"},
		{"add r5 r5 r5;ret", "add r6 r5 r5;ret"},
		{"sub r1 r5 r5;ret", "sub r1 r6 r5;ret"},
		{"mul r1 r5 r5;ret", "mul r1 r5 r6;ret"},
		{"and r1 r2 r3;ret", "and r1 r2 r8;ret"},
		{"or r1 r2 r3;ret", "or r1 r15 r3;ret"},
		{"xor r1 r2 r3;ret", "xor r12 r2 r3;ret"},
		{"shl r1 r2 r3;ret", "shl r7 r2 r3;ret"},
		{"shr r1 r2 r3;ret", "shr r1 r7 r3;ret"},
		{"slt r1 r2 r3;ret", "slt r1 r2 r7;ret"},
		{"seq r1 r2 r3;ret", "seq r1 r8 r8;ret"},
		{"addi r5 r5 9;ret", "addi r6 r5 9;ret"},
		{"addi r1 r0 -9;ret", "addi r1 r6 -9;ret"},
		{"beq r5 r0 1;ret", "beq r6 r0 1;ret"},
		{"bne r0 r5 1;ret", "bne r0 r6 1;ret"},
		{"blt r1 r2 1;ret", "blt r1 r8 1;ret"},
		{"bge r1 r2 1;ret", "bge r8 r2 1;ret"},
		{"halt r5", "halt r6"},
		{"out r5;ret", "out r6;ret"},
		{"glt r5 9 0;ret", "glt r6 9 0;ret"},
		{"gge r5 9 0;ret", "gge r8 9 0;ret"},
		{"jmp 1;trap 3", "-"},
		{"call g;trap 3", "-"},
		{"trap 255", "-"},
	})
}

// TestStaticDerivations: what is laid in r6 and r7, of what is known.
func TestStaticDerivations(t *testing.T) {
	checkPairs(t, "11.5", []pair{
		{"mov r6 r8;mov r7 r6;mov r6 r7;mov r6 r6;ret", "mov r7 r6;ret"},
		{"mov r7 r15;ret", "mov r7 r12;ret"}, // r12 is no root
		{"mov r6 r14;ret", "mov r5 r14;ret"},
		{"-", "mov r8 r8;ret"},
		{"-", "mov r12 r8;ret"},

		{"cinci r6 r8 -5;cinci r7 r6 2147483647;ret", "cinci r6 r7 1;ret"},
		{"cinci r7 r9 1;ret", "cinci r8 r8 1;ret"},
		{"cinci r7 r9 0;ret", "cinci r5 r8 1;ret"},
		{"cinci r6 r13 1;ret", "cinci r6 r14 1;ret"}, // r14 is sealed
		{"-", "cinci r6 r5 1;ret"},

		{"csetbi r6 r8 32;ret", "csetbi r6 r8 33;ret"},
		{"csetbi r6 r8 0;ret", "csetbi r6 r14 0;ret"},
		{"cinci r6 r8 32;csetbi r6 r6 0;ret", "cinci r6 r8 32;csetbi r6 r6 1;ret"},
		{"cinci r6 r9 47;csetbi r7 r6 1;ret", "cinci r6 r9 -1;csetbi r7 r6 1;ret"},
		{"csetbi r6 r8 8;csetbi r6 r6 8;ret", "csetbi r6 r8 8;csetbi r6 r6 9;ret"},
		{"-", "csetbi r8 r8 8;ret"},
		{"-", "csetbi r6 r7 8;ret"},

		{"candp r6 r8 -;ret", "candp r6 r14 -;ret"},
		{"candp r6 r8 r;lb r1 r6 0;ret", "candp r6 r8 w;lb r1 r6 0;ret"},
		{"-", "candp r6 r7 r;ret"},
		{"-", "candp r1 r8 r;ret"},

		{"cseal r6 r8 r10;ret", "cseal r6 r8 r9;ret"},    // r9 may not seal
		{"cseal r6 r10 r10;ret", "cseal r6 r14 r10;ret"}, // r14 is sealed
		{"cseal r6 r8 r10;ret", "cseal r12 r8 r10;ret"},  // r12 is none to lay something in
		{"cseal r7 r8 r10;ret", "cseal r7 r8 r7;ret"},    // nothing is known of r7
		{"cseal r7 r8 r10;ret", "cseal r7 r7 r10;ret"},
		{"cinci r7 r10 12;cseal r6 r8 r7;ret", "cinci r7 r10 13;cseal r6 r8 r7;ret"},
		{"cinci r7 r10 -2;cseal r6 r8 r7;ret", "cinci r7 r10 -3;cseal r6 r8 r7;ret"},
		{"candp r7 r10 s;cseal r6 r8 r7;ret", "candp r7 r10 u;cseal r6 r8 r7;ret"},

		{"cunseal r6 r14 r10;lb r1 r6 31;ret", "cunseal r6 r8 r10;ret"}, // r8 is not sealed
		{"candp r7 r10 u;cunseal r6 r14 r7;ret", "candp r7 r10 s;cunseal r6 r14 r7;ret"},
		{"cseal r6 r8 r10;cunseal r6 r6 r10;sb r0 r6 0;ret", "cseal r6 r8 r10;sb r0 r6 0;ret"},
		{"cinci r7 r10 1;cseal r6 r8 r7;cunseal r6 r6 r7;ret", "cinci r7 r10 1;cseal r6 r8 r7;cunseal r6 r6 r10;ret"},
		{"-", "cunseal r5 r14 r10;ret"},
		{"-", "cunseal r6 r14 r7;ret"},
		{"-", "cunseal r6 r7 r10;ret"},
		{"-", "cunseal r6 r14 r12;ret"},
	})
}

// TestStaticQuestions: what is asked of a known one, and guards.
func TestStaticQuestions(t *testing.T) {
	for _, op := range []string{"caddr", "cbase", "cend", "cperm", "csealed", "ctag"} {
		checkPairs(t, "11.5", []pair{
			{op + " r5 r8;ret", op + " r6 r8;ret"},
			{op + " r0 r15;ret", op + " r0 r12;ret"},
			{op + " r1 r14;ret", op + " r1 r6;ret"},
			{"mov r6 r8;" + op + " r1 r6;ret", "mov r6 r8;" + op + " r1 r7;ret"},
			{"-", op + " r1 r1;ret"},
			{"-", op + " r8 r8;ret"},
		})
	}
	checkPairs(t, "11.5", []pair{
		{"csame r5 r8 r9;ret", "csame r6 r8 r9;ret"},
		{"csame r5 r14 r14;ret", "csame r5 r14 r6;ret"},
		{"mov r6 r8;csame r5 r6 r8;ret", "mov r6 r8;csame r5 r7 r8;ret"},
		{"-", "csame r5 r1 r1;ret"},
		{"-", "csame r5 r8 r12;ret"},

		{"gtag r8 9;ret", "gtag r1 9;ret"},
		{"gin r14 1 9;ret", "gin r12 1 9;ret"},
		{"gperm r15 d 9;ret", "gperm r0 d 9;ret"},
		{"gseal r14 3 9;ret", "gseal r6 3 9;ret"},
		{"mov r6 r8;gtag r6 9;ret", "mov r6 r8;gtag r7 9;ret"},
		// Whether they hold is not asked.
		{"gseal r8 7 9;ret", "-"},
		{"gin r8 33 9;lb r1 r8 31;ret", "gin r8 33 9;lb r1 r8 32;ret"},
	})
}

// TestStaticBytes: loads and stores of bytes.
func TestStaticBytes(t *testing.T) {
	for _, op := range []string{"lb", "sb", "lw", "sw"} {
		last, beyond := "31", "32"
		if op[1] == 'w' {
			last, beyond = "24", "25"
		}
		checkPairs(t, "11.5", []pair{
			{op + " r5 r8 0;ret", op + " r6 r8 0;ret"},
			{op + " r0 r8 " + last + ";ret", op + " r0 r8 " + beyond + ";ret"},
			{"-", op + " r0 r8 -1;ret"},
			{"-", op + " r8 r8 0;ret"},
			{"-", op + " r1 r1 0;ret"},
			{"-", op + " r1 r6 0;ret"},
			{"-", op + " r1 r14 0;ret"}, // it is sealed
			{"-", op + " r1 r9 0;ret"},  // it may be used for capabilities alone
			{"mov r7 r8;" + op + " r1 r7 0;ret", "mov r7 r8;" + op + " r1 r6 0;ret"},
			// From the Base to the End it may point, and no further.
			{"cinci r6 r8 32;" + op + " r1 r6 -8;ret", "cinci r6 r8 33;" + op + " r1 r6 -9;ret"},
			{"cinci r6 r8 8;csetbi r6 r6 8;" + op + " r1 r6 0;ret", "cinci r6 r8 8;csetbi r6 r6 8;cinci r6 r6 -1;" + op + " r1 r6 1;ret"},
			// Addresses that go round: the sum is right, but it points to none of its own.
			{"cinci r6 r15 1;" + op + " r1 r6 0;ret", op + " r1 r15 1;ret"},
			{"cinci r6 r8 -8;cinci r6 r6 8;" + op + " r1 r6 0;ret", "cinci r6 r8 -8;" + op + " r1 r6 8;ret"},
			// In one region of bytes: from 0 to 32, from 32 to 48, from 96 to 112; slots are from 48 to 96.
			{op + " r1 r11 0;ret", op + " r1 r11 16;ret"},
			{op + " r1 r11 8;ret", op + " r1 r11 63;ret"},
			{op + " r1 r11 64;ret", op + " r1 r11 80;ret"},
			{op + " r1 r11 72;ret", op + " r1 r11 88;ret"},
		})
	}
	checkPairs(t, "11.5", []pair{
		// Eight bytes over the edge of two regions, and over that of bytes and slots.
		{"lb r1 r11 -1;ret", "lw r1 r11 -1;ret"},
		{"sb r1 r11 15;ret", "sw r1 r11 9;ret"},
		{"lw r1 r11 -8;ret", "sw r1 r11 73;ret"},
		// Load for loads, Store for stores.
		{"lb r1 r13 0;lw r1 r13 0;ret", "sb r1 r13 0;ret"},
		{"candp r6 r8 w;sb r1 r6 0;sw r1 r6 0;ret", "candp r6 r8 w;lw r1 r6 0;ret"},
		{"-", "sw r1 r13 0;ret"},
		{"-", "candp r6 r8 -;sb r1 r6 0;ret"},
	})
}

// TestStaticPlaces: loads and stores of capabilities. The slots at 48 and 64 have capabilities from 0 to 16 that may be read, the first one just that which points to 4; the one at 80 what is sealed by 3.
func TestStaticPlaces(t *testing.T) {
	checkPairs(t, "11.5", []pair{
		{"lc r6 r9 0;ret", "lc r6 r9 16;ret"}, // of two cursors
		{"lc r7 r9 32;ret", "lc r5 r9 32;ret"},
		{"lc r7 r11 16;ret", "lc r8 r9 0;ret"},
		{"lc r6 r11 48;ret", "lc r6 r11 0;ret"},  // bytes
		{"lc r6 r11 16;ret", "lc r6 r11 24;ret"}, // within a slot
		{"lc r6 r11 48;ret", "lc r6 r11 64;ret"}, // behind the last slot
		{"lc r6 r9 32;ret", "lc r6 r9 33;ret"},
		{"-", "lc r6 r9 48;ret"},
		{"-", "lc r6 r9 -16;ret"},
		{"-", "lc r6 r8 0;ret"},
		{"-", "lc r6 r7 0;ret"},
		{"-", "lc r6 r1 0;ret"},
		{"candp r6 r9 c;lc r7 r6 0;ret", "candp r6 r9 d;lc r7 r6 0;ret"},
		{"cinci r6 r9 48;lc r7 r6 -48;ret", "cinci r6 r9 49;lc r7 r6 -49;ret"},
		{"cinci r6 r9 -16;cinci r6 r6 16;lc r6 r6 0;ret", "cinci r6 r9 -16;lc r6 r6 16;ret"},
		{"csetbi r6 r9 16;lc r6 r6 0;ret", "csetbi r6 r9 15;lc r6 r6 0;ret"},
		{"-", "cseal r6 r9 r10;lc r6 r6 0;ret"},
		// What it gives is known: where it points, what it may, its seal.
		{"lc r6 r9 0;lb r1 r6 11;ret", "lc r6 r9 0;lb r1 r6 12;ret"},
		{"lc r6 r9 0;lb r1 r6 -4;ret", "lc r6 r9 0;sb r1 r6 0;ret"},
		{"lc r6 r9 32;cunseal r6 r6 r10;sw r1 r6 24;ret", "lc r6 r9 32;sw r1 r6 24;ret"},

		{"sc r13 r9 0;ret", "sc r8 r9 0;ret"},
		{"sc r13 r9 16;ret", "sc r13 r9 32;ret"},
		{"sc r14 r9 32;ret", "sc r14 r9 16;ret"},
		{"lc r6 r9 0;sc r6 r9 16;sc r6 r9 0;ret", "sc r6 r9 16;ret"},
		{"cinci r6 r13 1;sc r6 r9 16;ret", "cinci r6 r13 1;sc r6 r9 0;ret"},
		{"cinci r6 r13 0;sc r6 r9 16;ret", "cinci r6 r13 -1;sc r6 r9 16;ret"},
		{"-", "cinci r6 r13 2;sc r6 r9 16;ret"},
		{"-", "candp r6 r13 -;sc r6 r9 0;ret"},
		{"-", "csetbi r6 r13 12;sc r6 r9 0;ret"},
		{"-", "sc r1 r9 0;ret"},
		{"-", "sc r12 r9 0;ret"},
		{"sc r13 r11 16;ret", "sc r13 r11 0;ret"},
		{"-", "sc r13 r11 24;ret"},
		{"-", "sc r13 r11 -48;ret"},
		{"-", "sc r13 r7 0;ret"},
		{"-", "sc r13 r1 0;ret"},
		{"candp r6 r9 d;sc r13 r6 0;ret", "candp r6 r9 c;sc r13 r6 0;ret"},
		{"cinci r6 r9 48;sc r13 r6 -48;ret", "cinci r6 r9 49;sc r13 r6 -49;ret"},
		{"-", "cinci r6 r9 -16;sc r13 r6 16;ret"},
	})
}

// TestStaticOthers: the operations that the static part has not.
func TestStaticOthers(t *testing.T) {
	checkPairs(t, "11.5", []pair{
		{"-", "cpc r6 1;ret"},
		{"-", "cpc r1 1;ret"},
		{"-", "ret;jc r8"},
		{"-", "cpc r6 2;jc r6;ret"},
		{"-", "cinc r6 r8 r1;ret"},
		{"-", "csetb r6 r8 r1;ret"},
	})
}

// TestStaticRows: what is known of r6 and r7 in a row is not in the next one, whichever way comes there.
func TestStaticRows(t *testing.T) {
	checkPairs(t, "11.5", []pair{
		{"mov r6 r8;lb r1 r6 0;ret", "mov r6 r8;jmp 2;lb r1 r6 0;ret"},
		{"mov r6 r8;call g;lb r1 r6 0;ret", "mov r6 r8;beq r1 r0 3;lb r1 r6 0;ret"},
		{"mov r6 r8;glt r1 5 0;gtag r6 0;lb r1 r6 0;ret", "mov r6 r8;bne r1 r0 3;out r1;lb r1 r6 0;ret"},
		{"mov r7 r8;blt r1 r0 2;mov r7 r8;lb r1 r7 0;ret", "mov r7 r8;bge r1 r0 2;lb r1 r7 0;ret"},
		// Something goes to the midst: there a row begins, though it can be come to from ahead alone.
		{"mov r6 r8;lb r1 r6 0;ret;jmp 0", "mov r6 r8;lb r1 r6 0;ret;jmp 1"},
		{"a: mov r6 r8;lb r1 r6 0;jmp a", "mov r6 r8;a: lb r1 r6 0;jmp a"},
		// Behind an end nothing is known, and a root is: what nobody comes to is looked at, too.
		{"ret;mov r6 r8;lb r1 r6 0;ret", "mov r6 r8;ret;lb r1 r6 0;ret"},
		{"ret;lb r1 r8 0;ret", "ret;lb r1 r8 32;ret"},
		{"trap 1;mov r6 r8;trap 1", "mov r6 r8;trap 1;gtag r6 0;trap 1"},
		{"halt r1;mov r6 r8;gtag r6 0;halt r1", "mov r6 r8;halt r1;gtag r6 0;halt r1"},
		// A root that was laid in r6 or r7: at the beginning of the next row it is no longer known there, in its own register it is.
		{"mov r6 r8;mov r7 r9;jmp 3;lb r1 r8 0;lc r6 r9 0;ret", "mov r6 r8;mov r7 r9;jmp 3;lc r6 r7 0;ret"},
		// In each row anew.
		{"beq r1 r0 3;mov r6 r8;jmp 4;mov r6 r8;mov r6 r8;lb r1 r6 0;ret", "beq r1 r0 3;mov r6 r8;jmp 4;mov r6 r8;lb r1 r6 0;ret"},
		// One of both is known, the other is not.
		{"mov r6 r8;csame r1 r6 r6;ret", "mov r6 r8;csame r1 r6 r7;ret"},
	})
}

// TestStaticEntries: an entry of any gate of the compartment begins a row, those of others do not.
func TestStaticEntries(t *testing.T) {
	code := field("mov r6 r8;lb r1 r6 0;ret")
	other := "comp\nli r1 1\nout r1\nret\n"
	inner := strings.Replace(code, "gate g", other+"gate g", 1)
	for text, want := range map[string]bool{
		code + "gate h 0 0 ->\n":                      true,
		code + "gate h 0 1 ->\n":                      false,
		code + "gate h 0 0 ->\ngate i 0 1 ->\n":       false,
		code + "gate h 0 2 ->\n":                      true,
		inner + "gate h 1 1 ->\n":                     true,
		inner + "gate h 1 1 ->\ngate i 0 1 ->\n":      false,
		inner + "gate h 1 0 -> int int int int int\n": true,
	} {
		checkStatic(t, "11.5", text, want)
	}
}

// TestStaticGates: at most five integers, on both sides of each gate.
func TestStaticGates(t *testing.T) {
	code := field("ret")
	both := strings.Replace(code, "gate g", "comp\nret\ngate g", 1)
	for line, want := range map[string]bool{
		"->":                                 true,
		"int int int int int ->":             true,
		"int int int int int int ->":         false,
		"int int int int int int int ->":     false,
		"-> int int int int int":             true,
		"-> int int int int int int":         false,
		"-> int int int int int int int":     false,
		"cap 0 1 0 0 r 0 ->":                 false,
		"int int int int cap 0 1 0 0 r 0 ->": false,
		"-> cap 0 1 0 0 r 0":                 false,
		"int -> int int cap 0 0 0 0 - 0":     false,
		"int int int int int -> int":         true,
		"int int int int int int -> int int": false,
		"int -> int int int int int int":     false,
	} {
		checkStatic(t, "11.5", code+"gate h 0 0 "+line+"\n", want)
		checkStatic(t, "11.5", code+"gate h 0 0 "+line+"\ngate i 0 0 ->\n", want)
		checkStatic(t, "11.5", both+"gate h 1 0 "+line+"\n", want)
	}
}

// TestStaticEnds: the last instruction of each compartment never goes on.
func TestStaticEnds(t *testing.T) {
	for _, c := range []struct {
		last string
		want bool
	}{
		{"jmp 0", true}, {"halt r1", true}, {"trap 0", true}, {"ret", true},
		{"li r1 1", false}, {"beq r1 r0 0", false}, {"bge r1 r1 0", false}, {"out r1", false}, {"call g", false}, {"in r1", false},
		{"glt r1 1 0", false}, {"gtag r8 0", false}, {"mov r6 r8", false}, {"sb r1 r8 0", false},
	} {
		checkStatic(t, "11.5", field("li r1 1;"+c.last), c.want)
		// It is asked of all, of one that nobody comes to, too.
		more := strings.Replace(field("ret"), "gate g", "comp\nroot r8 0 32 0 rw 0\nret\n"+c.last+"\ngate g", 1)
		checkStatic(t, "11.5", more, c.want)
		more = strings.Replace(field("li r1 1;"+c.last), "gate g", "comp\nret\ngate g", 1)
		checkStatic(t, "11.5", more, c.want)
	}
}

// TestStaticRoots: each compartment has its own.
func TestStaticRoots(t *testing.T) {
	base := rows("depth 2;region 0 32 bytes;comp;root r8 0 32 0 r 0;lb r1 r8 0;ret;comp;root r9 0 16 0 w 0;CODE;ret;gate g 0 0 ->;gate h 1 0 ->")
	for code, want := range map[string]bool{
		"sb r1 r9 0":  true,
		"sb r1 r9 15": true,
		"sb r1 r9 16": false,
		"lb r1 r9 0":  false,
		"lb r1 r8 0":  false,
		"gtag r8 0":   false,
	} {
		checkStatic(t, "11.5", strings.Replace(base, "CODE", code, 1), want)
	}
}
