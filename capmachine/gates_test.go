package capmachine_test

import (
	"strings"
	"testing"

	"paddock/api"
	"paddock/capmachine"
)

// house is a program of two compartments: main calls inner, whose code and types are told.
func house(t *testing.T, mainCode, innerCode, inner string) api.Image {
	t.Helper()
	return parsed(t, yard+strings.Join(lines(mainCode), "\n")+`
comp
  root r9 0 16 3 r 0
  root r15 64 112 80 c 0
`+strings.Join(lines(innerCode), "\n")+"\n"+mainGate+"gate inner 1 "+inner+"\n")
}

// at is a machine at an instruction of main.
func at(t *testing.T, m api.Image, pc int, args ...uint64) *capmachine.Machine {
	t.Helper()
	x := begin(t, m, 0, append(args, make([]uint64, 3-len(args))...), nil)
	toThe(t, x, pc)
	return x
}

// entered are the registers behind a CALL of inner: the arguments, the roots, and 0.
func entered(args ...api.Value) [api.Regs]api.Value {
	var regs [api.Regs]api.Value
	copy(regs[1:], args)
	regs[9] = holding(api.Cap{End: 16, Cursor: 3, Perms: api.Load})
	regs[15] = holding(api.Cap{Base: 64, End: 112, Cursor: 80, Perms: api.LoadCap})
	return regs
}

func TestCall(t *testing.T) {
	c := "cap 0 32 0 40 rw 0"
	for _, g := range []struct {
		gate string
		args []api.Value
	}{
		{"0 ->", nil},
		{"0 int ->", []api.Value{integer(5)}},
		{"0 int int int -> int", []api.Value{integer(5), integer(6), integer(7)}},
		{"0 int int int " + c + " ->", []api.Value{integer(5), integer(6), integer(7), holding(inBytes)}},
		{"0 int int int " + c + " int int " + c + " -> " + c, []api.Value{integer(5), integer(6), integer(7), holding(inBytes), integer(0), integer(0), holding(pastEnd)}},
	} {
		m := house(t, "mov r4 r8 / mov r7 r15 / li r0 9 / call inner / trap 1", "trap 2 / trap 3", g.gate)
		x := at(t, m, 3, 5, 6, 7)
		want := lookAt(x)
		want.snap.Gate, want.snap.Pc, want.snap.Depth, want.snap.Regs = 1, 0, 1, entered(g.args...)
		checkOutcome(t, "A run, CALL", x.Step(), api.Outcome{Gate: 1})
		checkLook(t, "7.6: behind a CALL of "+g.gate, x, want)
	}
}

func TestCallAtAnEntry(t *testing.T) {
	x := at(t, house(t, "call inner", "trap 1 / trap 2 / trap 3", "2 ->"), 0)
	checkOutcome(t, "A run, CALL", x.Step(), api.Outcome{Gate: 1, Pc: 2})
	checkOutcome(t, "A run, CALL", x.Step(), api.Outcome{End: api.Trapped, Value: 3, Gate: 1, Pc: 2})
}

func TestRet(t *testing.T) {
	r9 := holding(api.Cap{End: 16, Cursor: 3, Perms: api.Load})
	for _, g := range []struct {
		inner, gate string
		results     []api.Value
	}{
		{"", "0 ->", nil},
		{"", "0 -> int", []api.Value{integer(0)}},
		{"", "0 int -> int", []api.Value{integer(5)}},
		{"li r1 40 / li r2 41 / li r3 42", "0 -> int int", []api.Value{integer(40), integer(41)}},
		{"li r1 40 / li r2 41", "0 ->", nil},
		{"mov r1 r9", "0 -> cap 0 16 3 3 r 0", []api.Value{r9}},
		{"mov r3 r9 / mov r7 r9", "0 -> int int cap 0 16 0 9 r 0 int int int cap 0 16 3 3 r 0", []api.Value{integer(0), integer(0), r9, integer(0), integer(0), integer(0), r9}},
		{"li r8 3 / mov r15 r9 / li r0 5 / li r9 0", "0 -> int", []api.Value{integer(0)}},
	} {
		m := house(t, "li r0 9 / mov r4 r11 / call inner / trap 1", strings.Join(append(lines(g.inner), "ret"), " / "), g.gate)
		x := at(t, m, 2, 5, 6, 7)
		want := lookAt(x)
		x.Step()
		for range lines(g.inner) {
			x.Step()
		}
		want.snap.Pc = 3
		copy(want.snap.Regs[1:], g.results)
		checkOutcome(t, "A run, RET", x.Step(), api.Outcome{Pc: 3})
		checkLook(t, "7.6: behind the RET of "+g.gate, x, want)
	}
}

// TestRetBehindTheCode: what follows a CALL need not be there.
func TestRetBehindTheCode(t *testing.T) {
	x := at(t, house(t, "call inner", "ret", "0 ->"), 0)
	checkOutcome(t, "A run, CALL", x.Step(), api.Outcome{Gate: 1})
	checkOutcome(t, "A run, RET", x.Step(), api.Outcome{Pc: 1})
	checkEnd(t, "behind the code", x, api.Outcome{End: api.Faulted, Fault: api.FTarget})
}

// misfits are rows of code that lay in r1 what is not of the type beside them; r1 is an integer else.
func misfits() map[string]string {
	return map[string]string{
		"mov r1 r8":                       "int",
		"mov r1 r11":                      "int",
		"li r1 4":                         "cap 0 32 0 40 rw 0",
		"cinci r1 r8 37":                  "cap 0 32 0 40 rw 0",
		"cinci r1 r8 -5":                  "cap 0 32 0 40 rw 0",
		"cinci r1 r8 -1":                  "cap 0 32 4 40 rw 0",
		"candp r1 r8 r":                   "cap 0 32 0 40 rw 0",
		"mov r1 r8 ":                      "cap 0 32 0 40 r 0",
		"cseal r1 r8 r10":                 "cap 0 32 0 40 rw 0",
		"mov r1 r8  ":                     "cap 0 32 0 40 rw 5",
		"cinci r1 r8 -4 / csetbi r1 r1 8": "cap 0 32 0 40 rw 0",
		"csetbi r1 r8 28":                 "cap 0 32 0 40 rw 0",
		"mov r1 r9":                       "cap 0 32 0 64 rwcd 0",
	}
}

func TestArgumentsThatDoNotFit(t *testing.T) {
	for code, kind := range misfits() {
		m := house(t, code+" / call inner", "ret", "0 "+kind+" ->")
		x := at(t, m, len(lines(code)))
		checkEnd(t, "A run, CALL, "+code+" for "+kind, x, api.Outcome{End: api.Faulted, Fault: api.FGate})
	}
	for _, gate := range []string{"0 int int int int cap 0 32 0 40 rw 0 ->", "0 int int int int int int cap 0 32 4 4 rw 0 ->", "0 int int int int int int cap 0 32 4 4 rw 0 -> int"} {
		x := at(t, house(t, "mov r4 r8 / call inner", "ret", gate), 1)
		checkEnd(t, "A run, CALL of "+gate, x, api.Outcome{End: api.Faulted, Fault: api.FGate})
	}
}

func TestResultsThatDoNotFit(t *testing.T) {
	for code, kind := range misfits() {
		// The main gate itself is one that gives back.
		m := parsed(t, yard+strings.Join(append(lines(code), "ret"), "\n")+"\ngate main 0 0 int int int -> "+kind+"\n")
		x := at(t, m, len(lines(code)))
		checkEnd(t, "A run, RET, "+code+" for "+kind, x, api.Outcome{End: api.Faulted, Fault: api.FGate})
	}
	for inner, gate := range map[string]string{"mov r1 r9": "0 -> int", "li r1 3": "0 -> cap 0 16 0 9 r 0", "mov r2 r9": "0 -> int int", "mov r7 r9": "0 -> int int int int int int int"} {
		x := at(t, house(t, "call inner", inner+" / ret", gate), 0)
		x.Step()
		x.Step()
		checkEnd(t, "A run, RET of "+gate, x, api.Outcome{End: api.Faulted, Fault: api.FGate})
	}
}

// TestRetTakesTheTypesOfTheGateAtHand: one compartment has two gates to the same code.
func TestRetTakesTheTypesOfTheGateAtHand(t *testing.T) {
	text := "depth 2\nregion 0 16 bytes\ncomp\ncall %\nhalt r1\ncomp\nroot r8 0 16 0 r 0\nmov r1 r8\nret\ngate main 0 0 ->\ngate none 1 0 ->\ngate number 1 0 -> int\ngate cap 1 0 -> cap 0 16 0 0 r 0\n"
	for gate, want := range map[string]api.Outcome{
		"none":   {End: api.Halted, Pc: 1},
		"number": {End: api.Faulted, Fault: api.FGate, Gate: 2, Pc: 1},
		"cap":    {End: api.Faulted, Fault: api.FInt, Pc: 1},
	} {
		x := begin(t, parsed(t, strings.Replace(text, "%", gate, 1)), 0, nil, nil)
		checkOutcome(t, "A run, RET of the gate "+gate, x.Run(9), want)
	}
}

func TestRetWithNothingOnTheStack(t *testing.T) {
	for _, c := range []struct {
		code, results string
		value         uint64
	}{
		{"ret", "", 0},
		{"li r1 9 / ret", "", 0},
		{"mov r1 r8 / ret", "", 0},
		{"li r1 9 / ret", "int", 9},
		{"ret", "int int int", 5},
		{"li r1 -1 / mov r2 r8 / ret", "int cap 0 32 4 4 rw 0", top},
		{"mov r1 r15 / ret", "cap 0 32 40 40 rw 0", 40},
		{"mov r1 r11 / ret", "cap 0 32 4 4 rw 5 int", 4},
	} {
		m := parsed(t, yard+strings.Join(lines(c.code), "\n")+"\ngate main 0 0 int int int -> "+c.results+"\n")
		x := at(t, m, len(lines(c.code))-1, 5, 6, 7)
		checkEnd(t, "A run, RET of "+c.results, x, api.Outcome{End: api.Halted, Value: c.value})
	}
}

// TestStackFull: the depth is how many calls may be in calls.
func TestStackFull(t *testing.T) {
	for _, depth := range []int{1, 2, 3, api.MaxDepth} {
		m := parsed(t, "depth 1\ncomp\naddi r1 r1 1\nout r1\ncall main\nret\ngate main 0 0 int ->\n")
		m.Depth = depth
		x := begin(t, m, 0, []uint64{0}, nil)
		for range depth {
			for range 3 {
				x.Step()
			}
		}
		x.Step()
		x.Step()
		if d := x.Snap().Depth; d != depth || len(x.Out()) != depth+1 {
			t.Errorf("A run, CALL: %d entries on the stack, %v put out, want %d entries", d, x.Out(), depth)
		}
		checkEnd(t, "the stack full", x, api.Outcome{End: api.Overflow})
	}
}

// TestArgumentsAheadOfOverflow: chapter 7's example 4.
func TestArgumentsAheadOfOverflow(t *testing.T) {
	for first, want := range map[string]api.Outcome{
		"li r1 3":    {End: api.Overflow},
		"cpc r1 0":   {End: api.Faulted, Fault: api.FGate},
		"mov r1 r15": {End: api.Faulted, Fault: api.FGate},
	} {
		m := house(t, "li r1 1 / call inner", first+" / call inner", "0 int ->")
		m.Depth = 1
		x := at(t, m, 1)
		x.Step()
		x.Step()
		checkEnd(t, "the stack full, CALL behind "+first, x, want)
	}
}

// TestStackIsTakenOff: the depth is no count of calls behind one another.
func TestStackIsTakenOff(t *testing.T) {
	m := parsed(t, "depth 1\ncomp\nli r2 7\ncall leaf\ncall leaf\ncall leaf\nout r2\nhalt r1\ncomp\naddi r1 r1 1\nret\ngate main 0 0 int ->\ngate leaf 1 0 int -> int\n")
	x := begin(t, m, 0, []uint64{4}, nil)
	checkOutcome(t, "A run, three calls behind one another", x.Run(50), api.Outcome{End: api.Halted, Value: 7, Pc: 5})
	if s := x.Snap(); s.Depth != 0 || len(x.Out()) != 1 || x.Out()[0] != 7 {
		t.Errorf("A run, RET: %+v, %v", s, x.Out())
	}
}

// TestCallsInCalls: each call finds its own registers again, however deep.
func TestCallsInCalls(t *testing.T) {
	m := parsed(t, `depth 16
comp
  root r8 0 16 0 rw 0
down: out r1
  beq r1 r0 up
  mov r2 r1
  addi r1 r1 -1
  li r8 6
  call down
  out r2
up: ret
gate down 0 down int -> int
`)
	x := begin(t, m, 0, []uint64{3}, nil)
	checkOutcome(t, "7.6: calls in calls", x.Run(100), api.Outcome{End: api.Halted, Pc: 7})
	want := []uint64{3, 2, 1, 0, 1, 2, 3}
	got := x.Out()
	for k := range want {
		if len(got) != len(want) || got[k] != want[k] {
			t.Fatalf("7.6: put out %v, want %v", got, want)
		}
	}
}

// TestCodeOfAnotherCompartment: what CPC makes is of the compartment at hand, and JC stays in it.
func TestCodeOfAnotherCompartment(t *testing.T) {
	second := api.Cap{Base: 1<<20 + 1<<16, End: 1<<20 + 1<<16 + 24, Cursor: 1<<20 + 1<<16 + 16, Perms: api.Exec}
	x := at(t, house(t, "call inner", "cpc r1 2 / jc r1 / trap 1", "0 ->"), 0)
	x.Step()
	want := lookAt(x)
	want.snap.Pc, want.snap.Regs[1] = 1, holding(second)
	checkOutcome(t, "A run, CPC", x.Step(), api.Outcome{Gate: 1, Pc: 1})
	checkLook(t, "A run, CPC", x, want)
	checkOutcome(t, "A run, JC", x.Step(), api.Outcome{Gate: 1, Pc: 2})
	// The one lays its own into a slot, the other takes it there.
	x = at(t, house(t, "cpc r1 0 / sc r1 r9 16 / call inner", "lc r1 r15 0 / jc r1 / trap 1", "0 ->"), 2)
	x.Step()
	x.Step()
	checkEnd(t, "A run, JC to the other compartment", x, api.Outcome{End: api.Faulted, Fault: api.FTarget})
}

// TestGateAtHand: several gates of one compartment; "at hand" is that by which it was come in.
func TestGateAtHand(t *testing.T) {
	m := parsed(t, "depth 3\ncomp\ncall b\nret\ncall a\nhalt r0\ngate c 0 2 ->\ngate a 0 0 ->\ngate b 0 1 ->\n")
	x := begin(t, m, 0, nil, nil)
	for _, want := range []api.Outcome{{Gate: 1}, {Gate: 2, Pc: 1}, {Gate: 1, Pc: 1}, {Pc: 3}, {End: api.Halted, Pc: 3}} {
		checkOutcome(t, "A run, the gate at hand", x.Step(), want)
	}
}
