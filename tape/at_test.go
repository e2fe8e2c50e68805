package tape_test

import (
	"slices"
	"testing"

	"paddock/api"
)

// calling has calls in calls: r5 and r9 of who called are as they were behind it, its result stays.
const calling = "depth 2;" + ground + "comp;" + roots + "li r5 50;li r1 7;call b;out r1;halt r1;" +
	"comp;root r9 0 64 33 rw 0;sb r1 r9 1;addi r5 r1 1;mov r1 r5;call c;addi r2 r2 9;ret;" +
	"comp;root r15 3 4 3 u 0;mul r1 r1 r1;li r2 5;ret;" +
	"gate a 0 0 ->;gate b 1 0 int -> int;gate c 2 0 int -> int int"

// TestCalls: behind a CALL its gate is at hand, one deeper, with the arguments, the roots and 0; behind its RET all but the results is as it was.
func TestCalls(t *testing.T) {
	r := run{m: parse(t, calling), fuel: 99}
	x := recorded(t, r)
	a := [api.Regs]uint64{9: 64, 10: 7, 11: 40, 12: 65520}
	b := [api.Regs]uint64{9: 33}
	c := [api.Regs]uint64{15: 3}
	with := func(l [api.Regs]uint64, r1, r2, r5 uint64) [api.Regs]uint64 {
		l[1], l[2], l[5] = r1, r2, r5
		return l
	}
	wants := []api.FSnap{
		{Gate: 0, Pc: 0, Depth: 0, Regs: a},
		{Gate: 0, Pc: 1, Depth: 0, Regs: with(a, 0, 0, 50)},
		{Gate: 0, Pc: 2, Depth: 0, Regs: with(a, 7, 0, 50)},
		{Gate: 1, Pc: 0, Depth: 1, Regs: with(b, 7, 0, 0)},
		{Gate: 1, Pc: 1, Depth: 1, Regs: with(b, 7, 0, 0)},
		{Gate: 1, Pc: 2, Depth: 1, Regs: with(b, 7, 0, 8)},
		{Gate: 1, Pc: 3, Depth: 1, Regs: with(b, 8, 0, 8)},
		{Gate: 2, Pc: 0, Depth: 2, Regs: with(c, 8, 0, 0)},
		{Gate: 2, Pc: 1, Depth: 2, Regs: with(c, 64, 0, 0)},
		{Gate: 2, Pc: 2, Depth: 2, Regs: with(c, 64, 5, 0)},
		{Gate: 1, Pc: 4, Depth: 1, Regs: with(b, 64, 5, 8)},
		{Gate: 1, Pc: 5, Depth: 1, Regs: with(b, 64, 14, 8)},
		{Gate: 0, Pc: 3, Depth: 0, Regs: with(a, 64, 0, 50)},
		{Gate: 0, Pc: 4, Depth: 0, Regs: with(a, 64, 0, 50)},
		{Gate: 0, Pc: 4, Depth: 0, Regs: with(a, 64, 0, 50)},
	}
	checkLen(t, "calls", x, len(wants)-1)
	checkOutcome(t, "calls", x, halted(64, 4))
	for place, want := range wants {
		checkAt(t, "calls", x, place, want)
	}
	checkStores(t, "calls", x, 34, 4)
	for _, s := range []seek{{1, 4, 0, false, 10}, {2, 0, 0, false, 7}, {0, 3, 0, false, 12}, {0, 2, 99, true, 2}, {1, 3, 99, true, 6}} {
		s.check(t, "calls", x)
	}
}

// TestOrders: in rising order, in falling order, mixed, and again.
func TestOrders(t *testing.T) {
	for _, r := range []run{
		{m: parse(t, calling), fuel: 99},
		{m: alone(t, storing), fuel: 99},
		{m: alone(t, counting), inputs: []uint64{3, 1, 4, 1, 5, 9, 2, 6}, fuel: 99},
		{m: alone(t, counting), inputs: times(99, 7), fuel: 97},
	} {
		x, m := recorded(t, r), modelOf(t, r)
		up := rising(m.len())
		down := slices.Clone(up)
		slices.Reverse(down)
		addrs := []uint64{0, 3, 8, 15, 34, api.MaxMem - 1, 9, 64}
		m.checkPlaces(t, "rising", x, up, addrs)
		m.checkPlaces(t, "falling", x, down, addrs)
		m.checkPlaces(t, "mixed", x, rolled(uint64(len(up))).Perm(len(up)), addrs)
		m.checkPlaces(t, "rising again", x, up, addrs)
		for k := range up {
			for range 3 {
				checkAt(t, "one again and again", x, k, m.snaps[k])
			}
		}
		m.checkEnd(t, "asked in all orders", x)
	}
}

// TestNoSuchStep: far and near, ahead of what is there and behind it, of runs of all lengths.
func TestNoSuchStep(t *testing.T) {
	for fuel := range 6 {
		x := taped(t, storing, fuel)
		for _, step := range []int{least, least + 1, -1 << 40, -4096, -2, -1, min(fuel, 4) + 1, min(fuel, 4) + 2, 4096, 8192, 1 << 40, most - 1, most} {
			checkNoStep(t, "storing", x, step)
		}
		for step := range min(fuel, 4) + 1 {
			if _, e := x.At(step); e != api.OK {
				t.Errorf("21.3: storing, fuel %d: At(%d) is %d, want OK", fuel, step, e)
			}
			checkByteError(t, "storing", x, step, api.MaxMem, api.ErrPlace)
		}
	}
}
