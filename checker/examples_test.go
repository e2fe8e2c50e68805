package checker_test

import (
	"strings"
	"testing"

	"paddock/api"
	"paddock/checker"
)

func checkStatic(t *testing.T, promise string, text string, want bool) {
	t.Helper()
	if got := checker.Static(parse(t, text)); got != want {
		t.Errorf("%s: Static is %t, of\n%s", promise, got, text)
	}
}

// TestExamples: those of the chapter, one by one.
func TestExamples(t *testing.T) {
	bare := func(code ...string) string { return "depth 1\ncomp\n" + rows(code...) + "gate g 0 0 ->\n" }
	first := bare("li r1 5", "addi r1 r1 -1", "bne r1 r0 1", "halt r1")
	table := checkFound(t, "Examples 1", first, taken(13))
	if got := table[0][1].Regs[1]; got != anyInteger() {
		t.Errorf("Examples 1: in the end r1 is %+v", got)
	}
	checkFound(t, "Examples 2", bare("lb r1 r2 0"), refused(api.RCap, 0, 0, 1))
	checkFound(t, "Examples 2", bare("li r1 1"), refused(api.RFall, 0, 0, 1))

	guarded := alone("in r1", "glt r1 32 0", "cinc r6 r8 r1", "lb r2 r6 0", "halt r2")
	checkFound(t, "Examples 3", guarded, taken(5))
	checkStatic(t, "Examples 3", guarded, false)
	checkFound(t, "Examples 3", strings.Replace(guarded, "glt r1 32 0\n", "", 1), refused(api.RBounds, 0, 2, 3))

	moved := alone("cinci r6 r8 5", "lb r2 r6 0", "halt r2")
	checkFound(t, "Examples 4", moved, taken(3))
	checkStatic(t, "Examples 4", moved, true)
	jumped := alone("cinci r6 r8 5", "jmp next", "next: lb r2 r6 0", "halt r2")
	checkFound(t, "Examples 4", jumped, taken(4))
	checkStatic(t, "Examples 4", jumped, false)
}

// TestExamplesOfTheWhole: what the document says of the checker in its own examples.
func TestExamplesOfTheWhole(t *testing.T) {
	read := "depth 1;region 0 32 bytes #05060708;comp;root r8 0 32 0 r 0;in r1;glt r1 32 9;cinc r2 r8 r1;lb r3 r2 0;halt r3;gate main 0 0 ->"
	loop := "depth 1;region 0 32 bytes #05060708;comp;root r8 0 32 0 r 0;li r1 0;li r2 0;li r3 4;next: bge r2 r3 done;glt r2 32 9;cinc r4 r8 r2;lb r5 r4 0;add r1 r1 r5;addi r2 r2 1;jmp next;done: halt r1;gate main 0 0 ->"
	lent := "depth 2;region 0 32 bytes #01020304;comp;root r8 0 32 0 rw 0;candp r1 r8 r;call peek;halt r1;comp;lb r1 r1 3;ret;gate main 0 0 ->;gate peek 1 0 cap 0 32 0 0 r 0 -> int"
	sealed := "depth 2;region 0 16 bytes #2a;comp;root r8 0 16 0 r 0;root r9 0 16 5 s 0;cseal r1 r8 r9;call keep;halt r1;comp;root r10 0 16 5 u 0;cunseal r2 r1 r10;lb r1 r2 0;ret;gate main 0 0 ->;gate keep 1 0 cap 0 16 0 0 r 5 -> int"
	places := "depth 1;region 0 16 bytes #07;region 16 32 slots;slot cap 0 16 0 15 rw 0 at 0;slot cap 0 16 0 15 rw 0 at 9;comp;root r8 16 48 16 cd 0;lc r1 r8 0;lc r2 r8 16;sc r1 r8 16;lc r3 r8 16;csame r4 r1 r3;cbase r5 r2;caddr r6 r3;out r4;out r5;out r6;halt r0;gate main 0 0 ->"
	for _, c := range []struct {
		promise, text string
		want          found
		static        bool
	}{
		{"Example 1", read, taken(5), false},
		{"Example 2", strings.Replace(read, "glt r1 32 9;", "", 1), refused(api.RBounds, 0, 2, 3), false},
		{"Example 3", loop, taken(39), false},
		{"Example 4", lent, taken(5), false},
		{"Example 4", strings.Replace(lent, "lb r1 r1 3", "sb r0 r1 3", 1), refused(api.RPerm, 1, 0, 4), false},
		{"Example 4", strings.Replace(lent, "candp r1 r8 r", "mov r1 r8", 1), refused(api.RArgs, 0, 1, 4), false},
		{"Example 5", sealed, taken(6), false},
		{"Example 5", strings.Replace(strings.Replace(sealed, "root r10 0 16 5 u 0;cunseal r2 r1 r10;", "", 1), "lb r1 r2 0", "lb r1 r1 0", 1), refused(api.RSeal, 1, 0, 4), false},
		{"Example 6", places, taken(11), false},
		{"Example 7", "depth 1;comp;cpc r1 3;jc r1;trap 7;ctag r2 r1;halt r2;gate main 0 0 ->", taken(4), false},
		{"Example 8", "depth 3;comp;addi r1 r1 1;out r1;call main;ret;gate main 0 0 int ->", taken(4), true},
		{"Example 9", "depth 1;comp;top: jmp top;gate main 0 0 ->", taken(1), true},
		{"Example 9", "depth 1;comp;addi r1 r1 1;gate main 0 0 ->", refused(api.RFall, 0, 0, 1), false},
	} {
		checkFound(t, c.promise, rows(c.text), c.want)
		checkStatic(t, c.promise, rows(c.text), c.static)
	}
}
