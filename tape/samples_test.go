package tape_test

import (
	"slices"
	"strings"
	"testing"

	"paddock/api"
	"paddock/asm"
	"paddock/tape"
)

const (
	top   = ^uint64(0)
	least = -1 << 63
	most  = 1<<63 - 1
)

// parse reads a program, in whose text a semicolon stands for the end of a line.
func parse(t testing.TB, text string) api.Image {
	t.Helper()
	text = strings.ReplaceAll(text, ";", "\n")
	m, e, line := asm.Parse(text)
	if e != api.OK {
		t.Fatalf("Parse: %d, line %d of\n%s", e, line, text)
	}
	return m
}

// ground is memory: bytes at its beginning and at its end, and two places of capabilities; and roots of a compartment: r8 and r12 for the bytes, r9 for the places, r10 and r11 to be stored there.
const (
	ground = "region 0 64 bytes #0102030405;region 64 32 slots;slot cap 0 64 0 63 r 0 at 5;slot cap 0 64 0 63 r 0 at 6;region 65520 16 bytes #2a;"
	roots  = "root r8 0 64 0 rw 0;root r9 64 96 64 cd 0;root r10 0 64 7 r 0;root r11 0 64 40 r 0;root r12 65520 65536 65520 rw 0;"
)

// alone is a program of one compartment, with one gate, at its first instruction, without arguments.
func alone(t testing.TB, code string) api.Image {
	t.Helper()
	return parse(t, "depth 2;"+ground+"comp;"+roots+code+";gate g 0 0 ->")
}

// storing is the chapter's example.
const storing = "li r1 5;sb r1 r8 3;lb r2 r8 3;halt r2"

// counting takes a number in each round, and keeps how many rounds there were, and the number.
const counting = "in r1;addi r2 r2 1;sw r2 r8 8;sb r1 r8 15;jmp 0"

// run is what Record is given.
type run struct {
	m      api.Image
	gate   int
	args   []uint64
	inputs []uint64
	fuel   int
}

func (r run) asked() (*tape.Tape, api.Errno) {
	return tape.Record(r.m, r.gate, r.args, r.inputs, r.fuel)
}

// recorded is the tape of a run that may be.
func recorded(t testing.TB, r run) *tape.Tape {
	t.Helper()
	x, e := r.asked()
	if x == nil || e != api.OK {
		t.Fatalf("21.1: Record: %v, %d, want a tape and OK", x != nil, e)
	}
	return x
}

// taped is the tape of a run of such code.
func taped(t testing.TB, code string, fuel int, inputs ...uint64) *tape.Tape {
	t.Helper()
	return recorded(t, run{m: alone(t, code), inputs: inputs, fuel: fuel})
}

func checkLen(t testing.TB, what string, x *tape.Tape, want int) {
	t.Helper()
	if got := x.Len(); got != want {
		t.Errorf("21.2: %s: Len is %d, want %d", what, got, want)
	}
}

func checkOutcome(t testing.TB, what string, x *tape.Tape, want api.Outcome) {
	t.Helper()
	if got := x.Outcome(); got != want {
		t.Errorf("21.2: %s: Outcome is %+v, want %+v", what, got, want)
	}
}

func checkAt(t testing.TB, what string, x *tape.Tape, step int, want api.FSnap) {
	t.Helper()
	if got, e := x.At(step); got != want || e != api.OK {
		t.Errorf("21.3: %s: At(%d) is %+v, %d, want %+v", what, step, got, e, want)
	}
}

func checkByte(t testing.TB, what string, x *tape.Tape, step int, addr uint64, want byte) {
	t.Helper()
	if got, e := x.Byte(step, addr); got != want || e != api.OK {
		t.Errorf("21.4: %s: Byte(%d, %d) is %d, %d, want %d", what, step, addr, got, e, want)
	}
}

func checkStores(t testing.TB, what string, x *tape.Tape, addr uint64, want ...int) {
	t.Helper()
	if got := x.Stores(addr); !slices.Equal(got, want) {
		t.Errorf("21.5: %s: Stores(%d) is %d, want %d", what, addr, got, want)
	}
}

// checkNoStep looks whether there is no such step.
func checkNoStep(t testing.TB, what string, x *tape.Tape, step int) {
	t.Helper()
	if s, e := x.At(step); s != (api.FSnap{}) || e != api.ErrStep {
		t.Errorf("21.3: %s: At(%d) is %+v, %d, want ErrStep", what, step, s, e)
	}
	for _, addr := range []uint64{0, api.MaxMem - 1, api.MaxMem, top} {
		checkByteError(t, what, x, step, addr, api.ErrStep)
	}
}

func checkByteError(t testing.TB, what string, x *tape.Tape, step int, addr uint64, want api.Errno) {
	t.Helper()
	if b, e := x.Byte(step, addr); b != 0 || e != want {
		t.Errorf("21.4: %s: Byte(%d, %d) is %d, %d, want 0, %d", what, step, addr, b, e, want)
	}
}

// seek is a Find, and what it is to find.
type seek struct {
	gate, pc, from int
	back           bool
	want           int
}

func (s seek) check(t testing.TB, what string, x *tape.Tape) {
	t.Helper()
	if got := x.Find(s.gate, s.pc, s.from, s.back); got != s.want {
		t.Errorf("21.6: %s: Find(%d, %d, %d, %t) is %d, want %d", what, s.gate, s.pc, s.from, s.back, got, s.want)
	}
}

// ended is how a run ended in the code of the gate 0.
func ended(end api.End, value uint64, pc int) api.Outcome {
	return api.Outcome{End: end, Value: value, Pc: pc}
}

func halted(value uint64, pc int) api.Outcome { return ended(api.Halted, value, pc) }

func starved(pc int) api.Outcome { return ended(api.Starved, 0, pc) }

func spent(pc int) api.Outcome { return ended(api.Spent, 0, pc) }

// times is a number as often as one likes.
func times(n int, x uint64) []uint64 { return slices.Repeat([]uint64{x}, n) }
