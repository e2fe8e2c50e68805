package capmachine_test

import (
	"slices"
	"strings"
	"testing"

	"paddock/api"
)

// example is a program, and what comes of it from the gate 0 on.
type example struct {
	name, text   string
	args, inputs []uint64
	fuel         int
	want         api.Outcome
	out          []uint64
	touches      []api.Touch
}

func checkExamples(t *testing.T, l []example) {
	t.Helper()
	for _, c := range l {
		if c.fuel == 0 {
			c.fuel = 1000
		}
		x := begin(t, parsed(t, strings.Join(lines(c.text), "\n")), 0, c.args, c.inputs)
		checkOutcome(t, c.name, x.Run(c.fuel), c.want)
		if !slices.Equal(x.Out(), c.out) || !slices.Equal(x.Touches(), c.touches) {
			t.Errorf("%s: put out %v, touched %+v, want %v, %+v", c.name, x.Out(), x.Touches(), c.out, c.touches)
		}
	}
}

func faulted(f api.Fault, gate, pc int) api.Outcome {
	return api.Outcome{End: api.Faulted, Fault: f, Gate: gate, Pc: pc}
}

func halted(value uint64, pc int) api.Outcome {
	return api.Outcome{End: api.Halted, Value: value, Pc: pc}
}

// small is the program of chapter 7's examples, with this code.
func small(code string) string {
	return "depth 1 / region 0 32 bytes / comp / root r8 0 32 0 rw 0 / " + code + " / gate main 0 0 ->"
}

func TestChapterExamples(t *testing.T) {
	checkExamples(t, []example{
		{name: "7, example 1", text: small("li r1 5 / sb r1 r8 3 / lb r2 r8 3 / halt r2"), want: halted(5, 3), touches: []api.Touch{{Store: true, Addr: 3, Size: 1}, {Addr: 3, Size: 1}}},
		{name: "7, example 1, four steps", text: small("li r1 5 / sb r1 r8 3 / lb r2 r8 3 / halt r2"), fuel: 4, want: halted(5, 3), touches: []api.Touch{{Store: true, Addr: 3, Size: 1}, {Addr: 3, Size: 1}}},
		{name: "7, example 1, three steps", text: small("li r1 5 / sb r1 r8 3 / lb r2 r8 3 / halt r2"), fuel: 3, want: api.Outcome{End: api.Spent, Pc: 3}, touches: []api.Touch{{Store: true, Addr: 3, Size: 1}, {Addr: 3, Size: 1}}},
		{name: "7, example 2", text: small("lw r1 r8 24 / halt r1"), want: halted(0, 1), touches: []api.Touch{{Addr: 24, Size: 8}}},
		{name: "7, example 2", text: small("lw r1 r8 25"), want: faulted(api.FBounds, 0, 0)},
		{name: "7, example 2", text: small("candp r5 r8 r / sb r1 r5 0"), want: faulted(api.FPerm, 0, 1)},
		{name: "7, example 2", text: small("sb r8 r8 0"), want: faulted(api.FInt, 0, 0)},
		{name: "7, example 2", text: small("lb r1 r2 0"), want: faulted(api.FTag, 0, 0)},
		{name: "7, example 2", text: small("li r1 1"), want: faulted(api.FTarget, 0, 1)},
		{name: "7, example 3", text: small("cpc r1 3 / jc r1 / trap 7 / halt r0"), want: halted(0, 3)},
		{name: "7, example 3", text: small("cpc r1 3 / cinci r1 r1 -4 / jc r1 / trap 7 / halt r0"), want: faulted(api.FTarget, 0, 2)},
		{name: "7, example 3", text: small("cpc r1 3 / cinci r1 r1 4 / jc r1 / trap 7 / halt r0"), want: faulted(api.FTarget, 0, 2)},
		{name: "7, example 3", text: small("cpc r1 3 / cinci r1 r1 400 / jc r1 / trap 7 / halt r0"), want: faulted(api.FBounds, 0, 2)},
		{name: "7, example 4", text: small("mov r1 r8 / call in / trap 1") + " / gate in 0 2 int ->", want: faulted(api.FGate, 0, 1)},
		{name: "7, example 4, the stack full", text: small("mov r1 r8 / call in / mov r1 r8 / cpc r1 0 / call in") + " / gate in 0 3 cap 0 32 0 0 rw 0 ->", want: faulted(api.FGate, 1, 4)},
	})
}

const (
	bytes5 = "depth 1 / region 0 32 bytes #05060708 / comp / root r8 0 32 0 r 0 / "
	guards = bytes5 + "in r1 / glt r1 32 9 / cinc r2 r8 r1 / lb r3 r2 0 / halt r3 / gate main 0 0 ->"
	bare   = bytes5 + "in r1 / cinc r2 r8 r1 / lb r3 r2 0 / halt r3 / gate main 0 0 ->"
	summed = bytes5 + "li r1 0 / li r2 0 / li r3 4 / next: bge r2 r3 done / glt r2 32 9 / cinc r4 r8 r2 / lb r5 r4 0 / add r1 r1 r5 / addi r2 r2 1 / jmp next / done: halt r1 / gate main 0 0 ->"
	lent   = "depth 2 / region 0 32 bytes #01020304 / comp / root r8 0 32 0 rw 0 / candp r1 r8 r / call peek / halt r1 / comp / lb r1 r1 3 / ret / gate main 0 0 -> / gate peek 1 0 cap 0 32 0 0 r 0 -> int"
	kept   = "depth 2 / region 0 16 bytes #2a / comp / root r8 0 16 0 r 0 / root r9 0 16 5 s 0 / cseal r1 r8 r9 / call keep / halt r1 / comp / root r10 0 16 5 u 0 / cunseal r2 r1 r10 / lb r1 r2 0 / ret / gate main 0 0 -> / gate keep 1 0 cap 0 16 0 0 r 5 -> int"
	shut   = "depth 2 / region 0 16 bytes #2a / comp / root r8 0 16 0 r 0 / root r9 0 16 5 s 0 / cseal r1 r8 r9 / call keep / halt r1 / comp / lb r1 r1 0 / ret / gate main 0 0 -> / gate keep 1 0 cap 0 16 0 0 r 5 -> int"
	places = "depth 1 / region 0 16 bytes #07 / region 16 32 slots / slot cap 0 16 0 15 rw 0 at 0 / slot cap 0 16 0 15 rw 0 at 9 / comp / root r8 16 48 16 cd 0 / lc r1 r8 0 / lc r2 r8 16 / sc r1 r8 16 / lc r3 r8 16 / csame r4 r1 r3 / cbase r5 r2 / caddr r6 r3 / out r4 / out r5 / out r6 / halt r0 / gate main 0 0 ->"
	points = "depth 1 / comp / cpc r1 3 / jc r1 / trap 7 / ctag r2 r1 / halt r2 / gate main 0 0 ->"
	nested = "depth 3 / comp / addi r1 r1 1 / out r1 / call main / ret / gate main 0 0 int ->"
)

// TestExamplesOfTheWhole: those of the document, as far as they speak of the first machine.
func TestExamplesOfTheWhole(t *testing.T) {
	load := func(addr uint64) api.Touch { return api.Touch{Addr: addr, Size: 1} }
	checkExamples(t, []example{
		{name: "example 1", text: guards, inputs: []uint64{2}, want: halted(7, 4), touches: []api.Touch{load(2)}},
		{name: "example 1", text: guards, inputs: []uint64{40}, want: api.Outcome{End: api.Guarded, Value: 9, Pc: 1}},
		{name: "example 1", text: guards, want: api.Outcome{End: api.Starved}},
		{name: "example 2", text: bare, inputs: []uint64{2}, want: halted(7, 3), touches: []api.Touch{load(2)}},
		{name: "example 2", text: bare, inputs: []uint64{40}, want: faulted(api.FBounds, 0, 2)},
		{name: "example 3", text: summed, want: halted(26, 10), touches: []api.Touch{load(0), load(1), load(2), load(3)}},
		{name: "example 4", text: lent, want: halted(4, 2), touches: []api.Touch{load(3)}},
		{name: "example 4", text: strings.Replace(lent, "lb r1 r1 3", "sb r0 r1 3", 1), want: faulted(api.FPerm, 1, 0)},
		{name: "example 4", text: strings.Replace(lent, "candp r1 r8 r", "mov r1 r8", 1), want: faulted(api.FGate, 0, 1)},
		{name: "example 5", text: kept, want: halted(42, 2), touches: []api.Touch{load(0)}},
		{name: "example 5", text: shut, want: faulted(api.FSeal, 1, 0)},
		{name: "example 6", text: places, want: halted(0, 10), out: []uint64{1, 0, 0}, touches: []api.Touch{{Addr: 16, Size: 16}, {Addr: 32, Size: 16}, {Store: true, Addr: 32, Size: 16}, {Addr: 32, Size: 16}}},
		{name: "example 7", text: points, want: halted(1, 4)},
		{name: "example 8", text: nested, args: []uint64{0}, want: api.Outcome{End: api.Overflow, Pc: 2}, out: []uint64{1, 2, 3, 4}},
		{name: "example 8", text: nested, args: []uint64{0}, fuel: 5, want: api.Outcome{End: api.Spent, Pc: 2}, out: []uint64{1, 2}},
		{name: "example 9", text: "depth 1 / comp / top: jmp top / gate main 0 0 ->", want: api.Outcome{End: api.Spent}},
		{name: "example 9", text: "depth 1 / comp / addi r1 r1 1 / gate main 0 0 ->", want: faulted(api.FTarget, 0, 1)},
	})
}
