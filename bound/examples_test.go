package bound_test

import (
	"testing"

	"paddock/api"
)

// TestExamples: those of the chapter.
func TestExamples(t *testing.T) {
	check(t, "li, halt", program(t, "li r1 5;halt r1"), 0, cost(2, 0, 0), 0)
	check(t, "li alone", program(t, "li r1 5"), 0, cost(2, 0, 0), 0)
	check(t, "a branch", program(t, "in r1;beq r1 r0 4;in r2;out r2;ret"), 0, cost(5, 0, 2), 0)

	twice := program(t, "call 1;call 1;ret", "in r1;ret")
	check(t, "called twice", twice, 0, cost(7, 1, 2), 1)
	check(t, "called twice", twice, 1, cost(2, 0, 1), 0)

	check(t, "a round", program(t, "addi r1 r1 -1;bne r1 r0 0;ret"), 0, unknown, 0)
	check(t, "a gate that calls itself", program(t, "call 0;ret"), 0, unknown, endless)
}

// TestExamplesOfTheWhole: those of the document that have programs.
func TestExamplesOfTheWhole(t *testing.T) {
	for _, x := range []struct {
		what, text string
		want       []api.Cost
		deep       []int
	}{
		{"1", "depth 1;region 0 32 bytes #05060708;comp;root r8 0 32 0 r 0;in r1;glt r1 32 9;cinc r2 r8 r1;lb r3 r2 0;halt r3;gate main 0 0 ->",
			[]api.Cost{cost(5, 0, 1)}, []int{0}},
		{"2", "depth 1;region 0 32 bytes #05060708;comp;root r8 0 32 0 r 0;in r1;cinc r2 r8 r1;lb r3 r2 0;halt r3;gate main 0 0 ->",
			[]api.Cost{cost(4, 0, 1)}, []int{0}},
		{"3", "depth 1;region 0 32 bytes #05060708;comp;root r8 0 32 0 r 0;li r1 0;li r2 0;li r3 4;next: bge r2 r3 done;glt r2 32 9;cinc r4 r8 r2;lb r5 r4 0;add r1 r1 r5;addi r2 r2 1;jmp next;done: halt r1;gate main 0 0 ->",
			[]api.Cost{unknown}, []int{0}},
		{"4", "depth 2;region 0 32 bytes #01020304;comp;root r8 0 32 0 rw 0;candp r1 r8 r;call peek;halt r1;comp;lb r1 r1 3;ret;gate main 0 0 ->;gate peek 1 0 cap 0 32 0 0 r 0 -> int",
			[]api.Cost{cost(5, 1, 0), cost(2, 0, 0)}, []int{1, 0}},
		{"5", "depth 2;region 0 16 bytes #2a;comp;root r8 0 16 0 r 0;root r9 0 16 5 s 0;cseal r1 r8 r9;call keep;halt r1;comp;root r10 0 16 5 u 0;cunseal r2 r1 r10;lb r1 r2 0;ret;gate main 0 0 ->;gate keep 1 0 cap 0 16 0 0 r 5 -> int",
			[]api.Cost{cost(6, 1, 0), cost(3, 0, 0)}, []int{1, 0}},
		{"6", "depth 1;region 0 16 bytes #07;region 16 32 slots;slot cap 0 16 0 15 rw 0 at 0;slot cap 0 16 0 15 rw 0 at 9;comp;root r8 16 48 16 cd 0;lc r1 r8 0;lc r2 r8 16;sc r1 r8 16;lc r3 r8 16;csame r4 r1 r3;cbase r5 r2;caddr r6 r3;out r4;out r5;out r6;halt r0;gate main 0 0 ->",
			[]api.Cost{cost(11, 0, 0)}, []int{0}},
		{"7", "depth 1;comp;cpc r1 3;jc r1;trap 7;ctag r2 r1;halt r2;gate main 0 0 ->",
			[]api.Cost{unknown}, []int{0}},
		{"8", "depth 3;comp;addi r1 r1 1;out r1;call main;ret;gate main 0 0 int ->",
			[]api.Cost{unknown}, []int{endless}},
		{"9", "depth 1;comp;top: jmp top;gate main 0 0 ->",
			[]api.Cost{unknown}, []int{0}},
		{"9, addi alone", "depth 1;comp;addi r1 r1 1;gate main 0 0 ->",
			[]api.Cost{cost(2, 0, 0)}, []int{0}},
	} {
		m := parse(t, x.text)
		for gate := range m.Gates {
			check(t, "the example "+x.what, m, gate, x.want[gate], x.deep[gate])
		}
	}
}
