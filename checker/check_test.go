package checker_test

import (
	"strconv"
	"strings"
	"testing"

	"paddock/api"
	"paddock/checker"
)

// TestStates: all that is known at the end, of each register and each instruction.
func TestStates(t *testing.T) {
	counted := regs{1: anyInteger()}
	for _, c := range []struct {
		text string
		want found
		row  []api.State
	}{
		{alone("halt r0"), taken(1), []api.State{in(nil)}},
		{alone("li r1 5", "mov r6 r8", "trap 3"), taken(3),
			[]api.State{in(nil), in(regs{1: one(5)}), in(regs{1: one(5), 6: pointer(0, 0)})}},

		// What can't be come to has no state: behind an end, at a branch that is never taken, behind a guard that fails.
		{alone("ret", "li r1 1", "ret"), taken(1), []api.State{in(nil), never(), never()}},
		{alone("li r1 1", "beq r1 r0 a", "ret", "a: ret"), taken(3),
			[]api.State{in(nil), in(regs{1: one(1)}), in(regs{1: one(1)}), never()}},
		{alone("gge r0 1 7", "lb r1 r0 0", "ret"), taken(1), []api.State{in(nil), never(), never()}},
		{alone("cpc r1 3", "jc r1", "trap 7", "ret"), taken(3),
			[]api.State{in(nil), in(regs{1: code(4, 3)}), never(), in(regs{1: code(4, 3)})}},

		// What comes together is joined; the lowest is done first, so that each is done once.
		{alone("in r1", "beq r1 r0 a", "li r2 7", "mov r6 r8", "a: ret"), taken(5),
			[]api.State{in(nil), in(counted), in(regs{1: integer(1, top)}), in(regs{1: integer(1, top), 2: one(7)}),
				in(regs{1: anyInteger(), 2: integer(0, 7), 6: nothing()})}},
		{alone("in r1", "beq r1 r0 a", "cinci r6 r8 4", "jmp b", "a: cinci r6 r8 9", "b: ret"), taken(6),
			[]api.State{in(nil), in(counted), in(regs{1: integer(1, top)}), in(regs{1: integer(1, top), 6: pointer(4, 4)}),
				in(regs{1: one(0)}), in(regs{1: anyInteger(), 6: pointer(4, 9)})}},
		// A branch of which both ways are the same.
		{alone("in r1", "beq r1 r0 2", "ret"), taken(3), []api.State{in(nil), in(counted), in(counted)}},

		// An instruction whose next one is itself: nothing changes, so it is done once.
		{alone("a: jmp a"), taken(1), []api.State{in(nil)}},
		{alone("in r1", "a: bne r1 r0 a", "halt r1"), taken(3), []api.State{in(nil), in(counted), in(regs{1: one(0)})}},
		{alone("cpc r1 1", "jc r1"), taken(2), []api.State{in(nil), in(regs{1: code(2, 1)})}},
		// An entry that is come back to, with what was known there and with other things.
		{alone("out r0", "jmp 0"), taken(2), []api.State{in(nil), in(nil)}},
		{alone("out r1", "li r1 4", "jmp 0"), taken(5),
			[]api.State{in(regs{1: integer(0, 4)}), in(regs{1: integer(0, 4)}), in(regs{1: one(4)})}},

		// A Reason at one instruction: nothing comes of it, the others go on.
		{alone("in r1", "beq r1 r0 a", "lb r2 r3 0", "ret", "a: ret"), refused(api.RCap, 0, 2, 4),
			[]api.State{in(nil), in(counted), in(regs{1: integer(1, top)}), never(), in(regs{1: one(0)})}},
		{alone("in r1", "beq r1 r0 a", "jmp b", "a: lb r2 r3 0", "b: ret"), refused(api.RCap, 0, 3, 5),
			[]api.State{in(nil), in(counted), in(regs{1: integer(1, top)}), in(regs{1: one(0)}), in(regs{1: integer(1, top)})}},
		// What came of it ahead of its Reason stays: at first r6 is r8 there.
		{alone("mov r6 r8", "a: lb r1 r6 0", "li r6 0", "jmp a"), refused(api.RCap, 0, 1, 5),
			[]api.State{in(nil), in(regs{1: integer(0, 255), 6: nothing()}), in(regs{1: integer(0, 255), 6: pointer(0, 0)}), in(regs{1: integer(0, 255)})}},
	} {
		table := checkFound(t, "11.1", c.text, c.want)
		if len(table) != 1 {
			t.Fatalf("11.2: %d rows of\n%s", len(table), c.text)
		}
		checkRow(t, "11.1", c.text, table[0], c.row)
	}
}

// code is known to be the capability of an instruction, of so many.
func code(size uint64, pc uint64) api.RType {
	single := func(n uint64) api.Span { return api.Span{Lo: n, Hi: n} }
	return api.RType{Kind: api.ACap, Base: single(api.CodeBase), End: single(api.CodeBase + size*api.Width),
		Point: single(api.CodeBase + pc*api.Width), Must: api.Exec, May: api.Exec}
}

// TestLowestFirst: the steps tell in which order instructions are done.
func TestLowestFirst(t *testing.T) {
	// From 1 on both ways are to do. The upper one goes to the end, the lower one changes that once more, if it comes behind.
	checkFound(t, "11.1", alone("in r1", "beq r1 r0 up", "li r2 1", "jmp end", "up: li r2 2", "end: out r2", "out r2", "ret"), taken(8))
	// Back from 3 to 1, while 4 is to do: 1 and 2 are done again ahead of it.
	checkFound(t, "11.1", alone("in r1", "a: beq r1 r0 b", "addi r2 r0 1", "bne r1 r0 a", "b: ret"), taken(7))
}

// TestWidened: counting up to a limit in a round. What is known of r1 at its head grows by one each time, and is widened where it has changed four times.
func TestWidened(t *testing.T) {
	limit := func(text string, n int) string { return strings.ReplaceAll(text, "N", strconv.Itoa(n)) }
	// At the entry: 0 is there ahead of all, and is no change. 0 to 4 is the fourth.
	entry := alone("addi r1 r1 1", "glt r1 N 0", "jmp 0")
	// Behind the entry: 0 is the first change, and 0 to 3 the fourth.
	behind := alone("li r1 0", "addi r1 r1 1", "glt r1 N 0", "jmp 1")
	// Two changes come from ahead, by 0 and by 7; so 7 to 8, and 7 to 9 are the third one and the fourth.
	twice := alone("in r2", "beq r2 r0 a", "li r1 7", "a: addi r1 r1 1", "glt r1 N 0", "jmp 3")
	// Four from ahead: 1, 2, 3, 4. Any that comes back is widened.
	four := alone("li r1 1;in r2;beq r2 r0 a", "li r1 2;in r2;beq r2 r0 a", "li r1 3;in r2;beq r2 r0 a", "li r1 4", "a: addi r1 r1 1", "glt r1 N 0", "jmp a")
	three := strings.Replace(four, "in r2\nbeq r2 r0 a\nli r1 4\n", "", 1)
	for _, c := range []struct {
		name, text string
		head       int
		limit      int
		low, high  uint64
	}{
		{"entry", entry, 0, 1, 0, 0},
		{"entry", entry, 0, 4, 0, 3},
		{"entry", entry, 0, 5, 0, 4},
		{"entry", entry, 0, 6, 0, top},
		{"behind", behind, 1, 3, 0, 2},
		{"behind", behind, 1, 4, 0, 3},
		{"behind", behind, 1, 5, 0, top},
		{"twice", twice, 3, 8, 0, 7},
		{"twice", twice, 3, 10, 0, 9},
		{"twice", twice, 3, 11, 0, top},
		{"three", three, 7, 4, 1, 3},
		{"three", three, 7, 5, 1, 4},
		{"three", three, 7, 6, 0, top},
		{"four", four, 10, 5, 1, 4},
		{"four", four, 10, 6, 0, top},
	} {
		text := limit(c.text, c.limit)
		r := checker.Check(parse(t, text))
		if got := r.Table[0][c.head].Regs[1]; got != integer(c.low, c.high) {
			t.Errorf("11.1: %s, up to %d: r1 is %+v, want %d to %d", c.name, c.limit, got, c.low, c.high)
		}
		if r.Reason != api.Fine {
			t.Errorf("11.1: %s, up to %d: refused, %d at %d", c.name, c.limit, r.Reason, r.Pc)
		}
	}
}

// TestWidenedOnTheWayBackAlone: what is changed often on the way on is joined, and stays as narrow as it can.
func TestWidenedOnTheWayBackAlone(t *testing.T) {
	// Ahead of 3, and of all behind it, r1 is 0, 0 to 1, .., and at the end up to 24, as the branch says.
	text := alone("li r1 0", "li r2 25", "a: bge r1 r2 b", "cinc r6 r8 r1", "sw r1 r6 0", "addi r1 r1 1", "jmp a", "b: halt r1")
	table := checkFound(t, "11.1", text, taken(28))
	for pc, want := range []api.RType{one(0), one(0), anyInteger(), integer(0, 24), integer(0, 24), integer(0, 24), integer(1, 25), integer(25, top)} {
		if got := table[0][pc].Regs[1]; got != want {
			t.Errorf("11.1: ahead of %d r1 is %+v, want %+v", pc, got, want)
		}
	}
	// Eight changes from ahead, one by one: none of them is widened.
	var l []string
	for n := range 7 {
		l = append(l, "li r1 "+strconv.Itoa(2+n), "in r2", "beq r2 r0 a")
	}
	text = alone(strings.Join(l, "\n"), "li r1 9", "a: halt r1")
	table = checkFound(t, "11.1", text, taken(23))
	if got := table[0][22].Regs[1]; got != integer(2, 9) {
		t.Errorf("11.1: behind eight ways r1 is %+v", got)
	}
}

// TestWidenedAsAWhole: where one register changes, all that has changed is widened, and what has not stays; what is there counts as the old one.
func TestWidenedAsAWhole(t *testing.T) {
	text := alone("li r1 100", "li r2 100", "li r3 5", "mov r6 r8",
		"a: in r4", "gge r1 90 0", "addi r1 r1 -1", "glt r2 106 0", "addi r2 r2 1", "cinci r6 r6 1", "jmp a")
	r := checker.Check(parse(t, text))
	want := in(regs{1: integer(0, 100), 2: integer(100, top), 3: one(5), 4: anyInteger(), 6: pointer(0, top)})
	checkState(t, "11.1", text, 4, r.Table[0][4], want)
}

// TestRounds: what stays known in rounds within others, and what does not.
func TestRounds(t *testing.T) {
	for _, c := range []struct {
		text string
		want found
	}{
		// Two rounds: the roots and what is laid anew in each stay known.
		{alone("in r1", "a: li r2 8", "b: addi r2 r2 -1", "bne r2 r0 b", "addi r1 r1 -1", "bne r1 r0 a", "sb r1 r8 31", "halt r1"), taken(17)},
		// r6 goes on each time: where it points is not known any more.
		{alone("mov r6 r8", "li r1 9", "a: lb r2 r6 0", "cinci r6 r6 1", "addi r1 r1 -1", "bne r1 r0 a", "ret"), refused(api.RBounds, 0, 2, 19)},
		// By cpc and jc, too.
		{alone("li r1 0", "cpc r2 2", "addi r1 r1 1", "glt r1 30 0", "cinc r6 r8 r1", "sb r1 r6 0", "jc r2"), taken(27)},
	} {
		checkFound(t, "11.1", c.text, c.want)
	}
}

// TestGates: each gate by itself, with its own row, of its own compartment.
func TestGates(t *testing.T) {
	text := rows("depth 3;region 0 32 bytes",
		"comp;root r8 0 32 0 rw 0",
		"x: lb r2 r1 0", "y: halt r2",
		"comp;root r9 0 32 5 r 0",
		"li r1 1", "mov r2 r9", "call two", "z: out r1", "ret",
		"gate one 0 y int ->",
		"gate two 0 x cap 0 32 0 31 rw 0 -> int",
		"gate three 1 z int int -> int",
		"gate four 0 x int ->",
		"gate five 1 0 -> int")
	table := checkFound(t, "11.1", text, refused(api.RCap, 3, 0, 1+2+2+1+3))
	second := func(r regs) api.State {
		s := in(r)
		s.Regs[8] = one(0)
		if _, there := r[9]; !there {
			s.Regs[9] = but(pointer(5, 5), func(p *api.RType) { p.Must, p.May = api.Load, api.Load })
		}
		return s
	}
	mine := second(nil).Regs[9]
	for gate, want := range [][]api.State{
		{never(), in(regs{1: anyInteger()})},
		{in(regs{1: pointer(0, 31)}), in(regs{1: pointer(0, 31), 2: integer(0, 255)})},
		{never(), never(), never(), second(regs{1: anyInteger(), 2: anyInteger()}), second(regs{1: anyInteger(), 2: anyInteger()})},
		{in(regs{1: anyInteger()}), never()},
		{second(nil), second(regs{1: one(1)}), second(regs{1: one(1), 2: mine}), never(), never()},
	} {
		checkRow(t, "11.1: gate "+strconv.Itoa(gate), text, table[gate], want)
	}
	if len(table) != 5 {
		t.Errorf("11.2: %d rows", len(table))
	}
}

// but is r with something changed in it.
func but(r api.RType, change func(r *api.RType)) api.RType {
	change(&r)
	return r
}

// TestCalls: where a gate is called, its results are known behind it, and no more; what it does is its own matter.
func TestCalls(t *testing.T) {
	text := rows("depth 3;region 0 32 bytes",
		"comp;root r8 0 32 0 rw 0",
		"li r1 4", "li r3 9", "call f", "sb r1 r2 1", "jmp 2",
		"comp;root r8 0 32 0 rw 0",
		"f: mov r2 r8", "ret",
		"gate g 0 0 ->",
		"gate f 1 0 int -> int cap 0 32 0 3 rw 0")
	table := checkFound(t, "11.1", text, taken(6+2))
	behind := regs{1: anyInteger(), 2: pointer(0, 3), 3: one(9)}
	checkRow(t, "11.1", text, table[0], []api.State{
		in(nil), in(regs{1: one(4)}), in(regs{1: anyInteger(), 2: nothing(), 3: one(9)}), in(behind), in(behind)})
	checkRow(t, "11.1", text, table[1], []api.State{in(regs{1: anyInteger()}), in(regs{1: anyInteger(), 2: pointer(0, 0)})})
}
