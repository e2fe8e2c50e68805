package tape_test

import (
	"testing"

	"paddock/api"
)

// TestExamples: the chapter's, in their order.
func TestExamples(t *testing.T) {
	x := taped(t, storing, 10)
	before := api.FSnap{Regs: [api.Regs]uint64{8: 0, 9: 64, 10: 7, 11: 40, 12: 65520}}
	t.Run("1", func(t *testing.T) {
		checkLen(t, "storing", x, 4)
		checkOutcome(t, "storing", x, halted(5, 3))
		checkAt(t, "storing", x, 0, before)
		s := before
		s.Pc, s.Regs[1] = 2, 5
		checkAt(t, "storing", x, 2, s)
		s.Pc, s.Regs[2] = 3, 5
		checkAt(t, "storing", x, 3, s)
		checkAt(t, "storing", x, 4, s)
		checkNoStep(t, "storing", x, 5)
	})
	t.Run("2", func(t *testing.T) {
		// This memory has a 4 there at first; in the chapter's it is 0.
		checkByte(t, "storing", x, 1, 3, 4)
		checkByte(t, "storing", x, 2, 3, 5)
		checkStores(t, "storing", x, 3, 2)
		checkStores(t, "storing", x, 4)
		checkByteError(t, "storing", x, 0, 65536, api.ErrPlace)
		checkByteError(t, "storing", x, 9, 65536, api.ErrStep)
		empty := parse(t, "depth 1;region 0 32 bytes;comp;root r8 0 32 0 rw 0;"+storing+";gate g 0 0 ->")
		y := recorded(t, run{m: empty, fuel: 10})
		checkByte(t, "storing into noughts", y, 1, 3, 0)
		checkByte(t, "storing into noughts", y, 2, 3, 5)
	})
	t.Run("3", func(t *testing.T) {
		for _, s := range []seek{{0, 2, 0, false, 2}, {0, 2, 3, false, -1}, {0, 2, 9, true, 2}, {0, 3, 0, false, 3}, {0, 3, 4, false, -1}, {0, 3, 4, true, 3}} {
			s.check(t, "storing", x)
		}
		y := taped(t, storing, 3)
		checkLen(t, "storing, with fuel 3", y, 3)
		checkOutcome(t, "storing, with fuel 3", y, spent(3))
		seek{0, 3, 0, false, 3}.check(t, "storing, with fuel 3", y)
	})
}

// TestExamplesOfTheWhole: those of the document whose programs are taken.
func TestExamplesOfTheWhole(t *testing.T) {
	for _, c := range []struct {
		name, text string
		inputs     []uint64
		fuel       int
		steps      int
		want       api.Outcome
	}{
		{"1, 2", "depth 1;region 0 32 bytes #05060708;comp;root r8 0 32 0 r 0;in r1;glt r1 32 9;cinc r2 r8 r1;lb r3 r2 0;halt r3;gate main 0 0 ->", []uint64{2}, 99, 5, halted(7, 4)},
		{"1, 40", "depth 1;region 0 32 bytes #05060708;comp;root r8 0 32 0 r 0;in r1;glt r1 32 9;cinc r2 r8 r1;lb r3 r2 0;halt r3;gate main 0 0 ->", []uint64{40}, 99, 2, ended(api.Guarded, 9, 1)},
		{"1, nothing", "depth 1;region 0 32 bytes #05060708;comp;root r8 0 32 0 r 0;in r1;glt r1 32 9;cinc r2 r8 r1;lb r3 r2 0;halt r3;gate main 0 0 ->", nil, 99, 1, starved(0)},
		{"3", "depth 1;region 0 32 bytes #05060708;comp;root r8 0 32 0 r 0;li r1 0;li r2 0;li r3 4;next: bge r2 r3 done;glt r2 32 9;cinc r4 r8 r2;lb r5 r4 0;add r1 r1 r5;addi r2 r2 1;jmp next;done: halt r1;gate main 0 0 ->", nil, 99, 3 + 4*7 + 2, halted(26, 10)},
		{"4", "depth 2;region 0 32 bytes #01020304;comp;root r8 0 32 0 rw 0;candp r1 r8 r;call peek;halt r1;comp;lb r1 r1 3;ret;gate main 0 0 ->;gate peek 1 0 cap 0 32 0 0 r 0 -> int", nil, 99, 5, halted(4, 2)},
		{"5", "depth 2;region 0 16 bytes #2a;comp;root r8 0 16 0 r 0;root r9 0 16 5 s 0;cseal r1 r8 r9;call keep;halt r1;comp;root r10 0 16 5 u 0;cunseal r2 r1 r10;lb r1 r2 0;ret;gate main 0 0 ->;gate keep 1 0 cap 0 16 0 0 r 5 -> int", nil, 99, 6, halted(42, 2)},
		{"6", "depth 1;region 0 16 bytes #07;region 16 32 slots;slot cap 0 16 0 15 rw 0 at 0;slot cap 0 16 0 15 rw 0 at 9;comp;root r8 16 48 16 cd 0;lc r1 r8 0;lc r2 r8 16;sc r1 r8 16;lc r3 r8 16;csame r4 r1 r3;cbase r5 r2;caddr r6 r3;out r4;out r5;out r6;halt r0;gate main 0 0 ->", nil, 99, 11, halted(0, 10)},
		{"7", "depth 1;comp;cpc r1 3;jc r1;trap 7;ctag r2 r1;halt r2;gate main 0 0 ->", nil, 99, 4, halted(1, 4)},
		{"9", "depth 1;comp;top: jmp top;gate main 0 0 ->", nil, 99, 99, spent(0)},
	} {
		r := run{m: parse(t, c.text), inputs: c.inputs, fuel: c.fuel}
		x, m := recorded(t, r), modelOf(t, r)
		what := "Example " + c.name
		checkLen(t, what, x, c.steps)
		checkOutcome(t, what, x, c.want)
		m.checkEnd(t, what, x)
		m.checkPlaces(t, what, x, rising(m.len()), []uint64{0, 16, 32, 40, api.MaxMem - 1})
		m.checkStores(t, what, x)
		m.checkFinds(t, what, x, len(r.m.Gates), len(r.m.Comps[0].Code))
	}
	// 8: calls in calls, until there are too many.
	m := parse(t, "depth 3;comp;addi r1 r1 1;out r1;call main;ret;gate main 0 0 int ->")
	x := recorded(t, run{m: m, args: []uint64{0}, fuel: 99})
	checkLen(t, "Example 8", x, 12)
	checkOutcome(t, "Example 8", x, ended(api.Overflow, 0, 2))
	checkAt(t, "Example 8", x, 12, api.FSnap{Pc: 2, Depth: 3, Regs: [api.Regs]uint64{1: 4}})
	x = recorded(t, run{m: m, args: []uint64{0}, fuel: 5})
	checkOutcome(t, "Example 8, with fuel 5", x, spent(2))
	checkAt(t, "Example 8, with fuel 5", x, 5, api.FSnap{Pc: 2, Depth: 1, Regs: [api.Regs]uint64{1: 2}})
}
