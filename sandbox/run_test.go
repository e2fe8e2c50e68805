package sandbox_test

import (
	"fmt"
	"math"
	"slices"
	"strings"
	"testing"

	"paddock/api"
	"paddock/sandbox"
)

// doors has gates of all sorts: behind each the numbers of arguments that are right for it, or -1, if it cannot be an entry.
func doors() []struct {
	gate  string
	right int
} {
	const open, shut = "cap 0 16 0 0 r 0", "cap 0 16 0 0 r 5"
	return []struct {
		gate  string
		right int
	}{
		{"->", 0},
		{"int ->", 1},
		{"int int int int int int int ->", 7},
		{open + " ->", -1},
		{"int " + open + " ->", -1},
		{open + " int ->", -1},
		{"int int int int int int " + shut + " ->", -1},
		{shut + " int int int int int int ->", -1},
		{"int int int " + open + " int int int ->", -1},
		{"int int -> int int", 2},
		{"-> int", 0},
	}
}

func manyDoors(t *testing.T) *sandbox.Program {
	t.Helper()
	text := "depth 1;comp;li r1 1;li r2 2;ret"
	for k, d := range doors() {
		text += fmt.Sprintf(";gate g%d 0 0 %s", k, d.gate)
	}
	return loaded(t, text)
}

// TestEntries: which gates can be begun with, and with how many arguments; that a gate cannot be an entry is told ahead of its arguments.
func TestEntries(t *testing.T) {
	p := manyDoors(t)
	for gate, d := range doors() {
		for n := range api.MaxArgs + 3 {
			b := begun{gate: gate, args: make([]uint64, n), fuel: 9}
			what := fmt.Sprintf("the gate %s with %d arguments", d.gate, n)
			switch {
			case d.right < 0:
				checkNoRun(t, what, p, b, api.ErrEntry)
			case n != d.right:
				checkNoRun(t, what, p, b, api.ErrArgs)
			case strings.HasSuffix(d.gate, "int"):
				checkRuns(t, what, p, b, api.Result{Outcome: api.Outcome{End: api.Halted, Value: 1, Gate: gate, Pc: 2}})
			default:
				checkRuns(t, what, p, b, api.Result{Outcome: api.Outcome{End: api.Halted, Gate: gate, Pc: 2}})
			}
		}
	}
}

// TestGatesThatAreNot: below 0, and behind the last one; whatever arguments there are.
func TestGatesThatAreNot(t *testing.T) {
	for _, p := range []*sandbox.Program{manyDoors(t), loaded(t, five)} {
		for _, gate := range []int{math.MinInt, -1 << 32, -16, -2, -1, len(doors()), api.MaxGates - 1, api.MaxGates, 255, 256, 1 << 32, 1 << 62, math.MaxInt} {
			for n := range api.MaxArgs + 2 {
				for _, fuel := range []int{-1, 0, 9} {
					checkNoRun(t, "a gate that is not", p, begun{gate: gate, args: make([]uint64, n), fuel: fuel}, api.ErrEntry)
				}
			}
		}
	}
	checkNoRun(t, "just behind the only gate", loaded(t, five), begun{gate: 1, fuel: 9}, api.ErrEntry)
}

// TestNoArguments: none are none, be the list nil or not.
func TestNoArguments(t *testing.T) {
	p := loaded(t, five)
	for _, args := range [][]uint64{nil, {}, make([]uint64, 0, 5)} {
		checkRuns(t, "no arguments", p, begun{args: args, inputs: args, fuel: 9}, api.Result{Outcome: halted(5, 1)})
	}
	checkNoRun(t, "an argument for none", p, begun{args: []uint64{0}, fuel: 9}, api.ErrArgs)
	checkNoRun(t, "none for one", loaded(t, calling), begun{fuel: 9}, api.ErrArgs)
}

// TestNil: there is no gate of it.
func TestNil(t *testing.T) {
	var p *sandbox.Program
	for _, gate := range []int{-1, 0, 1} {
		for _, args := range [][]uint64{nil, {1}} {
			for _, fuel := range []int{-1, 0, 9} {
				checkNoRun(t, "16.3: nil", p, begun{gate: gate, args: args, inputs: args, fuel: fuel}, api.ErrEntry)
			}
		}
	}
}

// TestArgumentsAndInputs: each comes where it belongs, whatever it is.
func TestArgumentsAndInputs(t *testing.T) {
	code := "out r1;out r2;out r3;out r4;out r5;out r6;out r7;out r0;out r9;in r1;in r2;out r2;out r1;in r1;out r1;in r1;halt r1"
	p := loaded(t, "depth 1;comp;"+code+";gate g 0 0 int int int int int int int ->;gate h 0 0 int ->")
	args := []uint64{1, top, 3, 1 << 63, 5, 6, 7}
	inputs := []uint64{10, top, 30}
	checkRuns(t, "seven arguments", p, begun{args: args, inputs: inputs, fuel: 50},
		api.Result{Outcome: api.Outcome{End: api.Starved, Pc: 15}, Out: slices.Concat(args, []uint64{0, 0, top, 10, 30})})
	checkRuns(t, "one argument", p, begun{gate: 1, args: args[1:2], inputs: slices.Concat(inputs, args), fuel: 50},
		api.Result{Outcome: api.Outcome{End: api.Halted, Value: 1, Gate: 1, Pc: 16}, Out: []uint64{top, 0, 0, 0, 0, 0, 0, 0, 0, top, 10, 30}})
}

// TestFuel: it is between 0 and MaxFuel, whatever is said.
func TestFuel(t *testing.T) {
	p := loaded(t, "depth 1;comp;addi r1 r1 1;out r1;jmp 0;gate g 0 0 ->")
	for _, c := range []struct{ fuel, steps int }{
		{math.MinInt, 0}, {-api.MaxFuel, 0}, {-1, 0}, {0, 0}, {1, 1}, {2, 2}, {3, 3}, {4, 4}, {1000, 1000},
		{api.MaxFuel - 1, api.MaxFuel - 1}, {api.MaxFuel, api.MaxFuel}, {api.MaxFuel + 1, api.MaxFuel}, {2 * api.MaxFuel, api.MaxFuel}, {1 << 40, api.MaxFuel}, {math.MaxInt, api.MaxFuel},
	} {
		want := api.Result{Outcome: spent(c.steps % 3)}
		for n := range (c.steps + 1) / 3 {
			want.Out = append(want.Out, uint64(n+1))
		}
		for _, w := range ways(p) {
			if r, e := w.asked(begun{fuel: c.fuel}); e != api.OK || !sameResult(r, want) {
				t.Errorf("16.2: %s with the fuel %d: %d, %+v, %d put out, want %+v, %d", w.name, c.fuel, e, r.Outcome, len(r.Out), want.Outcome, len(want.Out))
			}
		}
	}
}

// ending is a run of a program, and how many steps there are until it ends so.
type ending struct {
	text  string
	begun begun
	steps int
	want  api.Result
}

func in(gate int, end api.End, value uint64, pc int) api.Result {
	return api.Result{Outcome: api.Outcome{End: end, Value: value, Gate: gate, Pc: pc}}
}

// endings are runs that end in each way that there is, in the gate that was begun with or in one that it calls.
func endings() []ending {
	const yard = "depth 2;region 0 32 bytes #0102;comp;root r8 0 32 4 rw 0;"
	const called = "depth 1;comp;li r1 3;call g;trap 1;comp;"
	const gates = ";gate f 0 0 ->;gate g 1 0 int ->"
	touching := yard + "li r1 300;sb r1 r8 0;lb r2 r8 0;sw r2 r8 8;lw r3 r8 5;out r3;halt r2;gate g 0 0 ->"
	return []ending{
		{five, begun{}, 2, in(0, api.Halted, 5, 1)},
		{touching, begun{}, 7, api.Result{Outcome: halted(44, 6), Out: []uint64{44 << 24}, Touches: []api.Touch{store(4, 1), load(4, 1), store(12, 8), load(9, 8)}}},
		{yard + "halt r1;gate g 0 0 int ->", begun{args: []uint64{top}}, 1, in(0, api.Halted, top, 0)},
		{yard + "ret;gate g 0 0 int ->", begun{args: []uint64{top}}, 1, in(0, api.Halted, 0, 0)},
		{yard + "ret;gate g 0 0 int -> int", begun{args: []uint64{top}}, 1, in(0, api.Halted, top, 0)},
		{yard + "cinci r1 r8 -9;ret;gate g 0 0 -> cap 0 32 " + "18446744073709551611 18446744073709551611 rw 0", begun{}, 2, in(0, api.Halted, top-4, 1)},
		{called + "halt r1" + gates, begun{}, 3, in(1, api.Halted, 3, 0)},
		{yard + "glt r1 7 9;halt r1;gate g 0 0 int ->", begun{args: []uint64{7}}, 1, in(0, api.Guarded, 9, 0)},
		{yard + "glt r1 7 9;halt r1;gate g 0 0 int ->", begun{args: []uint64{6}}, 2, in(0, api.Halted, 6, 1)},
		{yard + "out r1;gge r1 7 0;halt r1;gate g 0 0 int ->", begun{args: []uint64{6}}, 2, api.Result{Outcome: api.Outcome{End: api.Guarded, Pc: 1}, Out: []uint64{6}}},
		{yard + "gin r8 28 1;gin r8 29 255;halt r1;gate g 0 0 ->", begun{}, 2, in(0, api.Guarded, 255, 1)},
		{yard + "gperm r8 rw 1;gperm r8 rc 2;ret;gate g 0 0 ->", begun{}, 2, in(0, api.Guarded, 2, 1)},
		{yard + "gseal r8 0 1;gseal r8 1 2;ret;gate g 0 0 ->", begun{}, 2, in(0, api.Guarded, 2, 1)},
		{yard + "gtag r8 1;gtag r1 2;ret;gate g 0 0 ->", begun{}, 2, in(0, api.Guarded, 2, 1)},
		{called + "glt r1 3 4;ret" + gates, begun{}, 3, in(1, api.Guarded, 4, 0)},
		{yard + "li r1 1;trap 0;gate g 0 0 ->", begun{}, 2, in(0, api.Trapped, 0, 1)},
		{yard + "trap 255;gate g 0 0 ->", begun{}, 1, in(0, api.Trapped, 255, 0)},
		{called + "ret" + gates, begun{}, 4, in(0, api.Trapped, 1, 2)},
		{called + "li r1 1;trap 8" + gates, begun{}, 4, in(1, api.Trapped, 8, 1)},
		{called + "call f;ret" + gates, begun{}, 3, in(1, api.Overflow, 0, 0)},
		{"depth 1;comp;call g;ret;gate g 0 0 ->", begun{}, 2, in(0, api.Overflow, 0, 0)},
		{"depth 16;comp;call g;ret;gate g 0 0 ->", begun{}, 17, in(0, api.Overflow, 0, 0)},
		{yard + "in r1;halt r1;gate g 0 0 ->", begun{}, 1, in(0, api.Starved, 0, 0)},
		{yard + "in r1;halt r1;gate g 0 0 ->", begun{inputs: []uint64{8}}, 2, in(0, api.Halted, 8, 1)},
		{yard + "in r1;out r1;jmp 0;gate g 0 0 ->", begun{inputs: []uint64{8, 9}}, 7, api.Result{Outcome: api.Outcome{End: api.Starved}, Out: []uint64{8, 9}}},
		{called + "in r1;in r1;ret" + gates, begun{inputs: []uint64{8}}, 4, in(1, api.Starved, 0, 1)},
	}
}

// TestEnds: with just enough fuel, more, or one less.
func TestEnds(t *testing.T) {
	ends := map[api.End]int{}
	for _, c := range endings() {
		p := loaded(t, c.text)
		ends[c.want.Outcome.End]++
		for _, fuel := range []int{c.steps, c.steps + 1, c.steps + 1000, api.MaxFuel, math.MaxInt} {
			b := c.begun
			b.fuel = fuel
			checkRuns(t, c.text, p, b, c.want)
		}
		// The last step puts nothing out and touches nothing: all but how it ends has been.
		b, less := c.begun, c.want
		b.fuel = c.steps - 1
		less.Outcome.End, less.Outcome.Value = api.Spent, 0
		checkRuns(t, c.text+", one less", p, b, less)
	}
	for _, end := range []api.End{api.Halted, api.Guarded, api.Trapped, api.Overflow, api.Starved} {
		if ends[end] < 2 {
			t.Errorf("16.2: no run ends so: %d", end)
		}
	}
}

// TestEachFuel: with each fuel the run stands where so many steps lead to.
func TestEachFuel(t *testing.T) {
	for _, c := range endings() {
		m := parse(t, c.text)
		p := loaded(t, c.text)
		for fuel := range c.steps + 2 {
			b := c.begun
			b.fuel = fuel
			checkRuns(t, c.text, p, b, stepped(t, m, b))
		}
	}
}

// TestMemoryAnew: what a run stores, byte by byte or in a slot, no other one finds, on either machine.
func TestMemoryAnew(t *testing.T) {
	counting := loaded(t, "depth 1;region 16 16 bytes #29;comp;root r8 16 32 16 rw 0;lw r1 r8 0;addi r1 r1 1;sw r1 r8 0;sb r1 r8 15;lb r2 r8 15;halt r2;gate g 0 0 ->;gate h 0 5 ->;gate i 0 4 ->")
	placing := loaded(t, "depth 1;region 0 16 bytes;region 16 16 slots;slot cap 0 16 0 15 rw 0 at 3;comp;root r8 0 16 7 rw 0;root r9 16 32 16 cd 0;lc r1 r9 0;caddr r2 r1;out r2;sc r8 r9 0;lc r1 r9 0;caddr r2 r1;halt r2;gate g 0 0 ->")
	count := api.Result{Outcome: halted(42, 5), Touches: []api.Touch{load(16, 8), store(16, 8), store(31, 1), load(31, 1)}}
	placed := api.Result{Outcome: halted(7, 6), Out: []uint64{3}, Touches: []api.Touch{load(16, 16), store(16, 16), load(16, 16)}}
	for range 3 {
		checkRuns(t, "one that counts", counting, begun{fuel: 99}, count)
		checkRuns(t, "one that places", placing, begun{fuel: 99}, placed)
		// Runs that end in the middle, and from other gates.
		checkRuns(t, "one that counts, spent", counting, begun{fuel: 4}, api.Result{Outcome: spent(4), Touches: count.Touches[:3]})
		checkRuns(t, "one that places, spent", placing, begun{fuel: 4}, api.Result{Outcome: spent(4), Out: []uint64{3}, Touches: placed.Touches[:2]})
		checkRuns(t, "registers", counting, begun{gate: 1, fuel: 99}, in(1, api.Halted, 0, 5))
		checkRuns(t, "one byte", counting, begun{gate: 2, fuel: 99}, api.Result{Outcome: api.Outcome{End: api.Halted, Gate: 2, Pc: 5}, Touches: []api.Touch{load(31, 1)}})
	}
}
