package trim_test

import (
	"testing"

	"paddock/api"
	"paddock/lang"
	"paddock/trim"
)

// checkSteps looks whether a run ends so, in just so many steps.
func checkSteps(t *testing.T, what string, run func() machine, end api.End, value uint64, steps int) {
	t.Helper()
	if got := withFuel(run(), steps); got.end != end || got.value != value {
		t.Errorf("19.4: %s: with fuel %d: %+v, want the end %d with %d", what, steps, got, end, value)
	}
	if got := withFuel(run(), steps-1); got.end != api.Spent {
		t.Errorf("19.4: %s: with fuel %d: %+v, want Spent", what, steps-1, got)
	}
}

// TestStepsOfTheFirst: the chapter's first example takes 6 steps, folded too, and 5 when it is trimmed.
func TestStepsOfTheFirst(t *testing.T) {
	m := parse(t, "depth 1;region 16 16 bytes;comp;root r8 16 32 16 r 0;li r1 5;addi r2 r1 1;glt r2 9 0;bne r2 r0 5;trap 1;cbase r3 r8;halt r2;gate main 0 0 ->")
	f, z := folded(t, m), trimmed(t, m)
	checkFolded(t, "the first example", m, f)
	lockstep(t, m, f, begin{})
	for what, on := range map[string]func(testing.TB, api.Image, begin) func() machine{"the first machine": onFirst, "the second machine": onSecond} {
		checkSteps(t, what, on(t, m, begin{}), api.Halted, 6, 6)
		checkSteps(t, what+", folded", on(t, f, begin{}), api.Halted, 6, 6)
		checkSteps(t, what+", trimmed", on(t, z, begin{}), api.Halted, 6, 5)
	}
}

// steps is a program, how it ends, and in how many steps, before it is packed and behind that.
type steps struct {
	what, code string
	inputs     []uint64
	end        api.End
	value      uint64
	was, now   int
}

// TestStepsOfPack: with each end, of programs that are right.
func TestStepsOfPack(t *testing.T) {
	for _, s := range []steps{
		{"HALT", "jmp 1;li r2 7;jmp 3;halt r2", nil, api.Halted, 7, 4, 2},
		{"RET", "jmp 3;jmp 2;jmp 3;ret", nil, api.Halted, 0, 2, 1},
		{"a round", "li r2 3;jmp 2;addi r2 r2 -1;jmp 5;jmp 5;bne r2 r0 1;jmp 7;halt r2", nil, api.Halted, 0, 1 + 3*4 + 2, 1 + 3*2 + 1},
		{"a guard", "jmp 1;glt r0 0 9;ret", nil, api.Guarded, 9, 2, 1},
		{"TRAP", "jmp 2;jmp 2;trap 3", nil, api.Trapped, 3, 2, 1},
		{"no input is left", "in r2;jmp 2;out r2;bge r2 r0 0;ret", []uint64{4, 5}, api.Starved, 0, 9, 7},
		{"calls in calls", "jmp 1;call g;ret", nil, api.Overflow, 0, 6, 3},
		{"a fault", "jmp 1;lb r2 r0 0;ret", nil, api.Faulted, 0, 2, 1},
		{"behind the code", "jmp 1;li r2 1", nil, api.Faulted, 0, 3, 2},
		{"nothing is idle", "jmp 2;ret;ret", nil, api.Halted, 0, 2, 2},
	} {
		m := parse(t, alone(s.code))
		b := begin{args: []uint64{1}, inputs: s.inputs}
		checkSteps(t, s.what, onFirst(t, m, b), s.end, s.value, s.was)
		checkSteps(t, s.what+", packed", onFirst(t, trim.Pack(m), b), s.end, s.value, s.now)
		if end, less := checkLike(t, "19.4: "+s.what, onFirst(t, m, b), onFirst(t, trim.Pack(m), b), most); end != s.end || less != s.was-s.now {
			t.Errorf("19.4: %s: the end %d, %d steps less", s.what, end, less)
		}
	}
	// A round of JMPs never ends, packed or not.
	for _, code := range []string{"jmp 1;jmp 0", "jmp 0", "jmp 1;jmp 2;jmp 0", "out r1;jmp 2;jmp 0"} {
		m := parse(t, alone(code))
		b := begin{args: []uint64{1}}
		if end, _ := checkLike(t, "19.4: "+code, onFirst(t, m, b), onFirst(t, trim.Pack(m), b), most); end != api.Spent {
			t.Errorf("19.4: %s: the end %d", code, end)
		}
	}
}

// TestCallsBack: what is called comes back to where the code goes on, where idle instructions stood behind the CALL, and ahead of the entry.
func TestCallsBack(t *testing.T) {
	m := parse(t, "depth 2;comp;jmp 1;li r1 5;call h;jmp 4;jmp 5;out r1;call h;jmp 8;halt r1;comp;ret;jmp 2;addi r1 r1 1;jmp 5;jmp 5;ret;gate g 0 0 ->;gate h 1 1 int -> int")
	p := trim.Pack(m)
	checkSame(t, "19.2: calls", p, parse(t, "depth 2;comp;li r1 5;call h;out r1;call h;halt r1;comp;ret;addi r1 r1 1;ret;gate g 0 0 ->;gate h 1 1 int -> int"))
	b := begin{}
	checkSteps(t, "calls", onFirst(t, m, b), api.Halted, 7, 17)
	checkSteps(t, "calls, packed", onFirst(t, p, b), api.Halted, 7, 9)
	checkLike(t, "19.4: calls", onFirst(t, m, b), onFirst(t, p, b), most)
	checkLike(t, "19.4: calls, on the second machine", onSecond(t, m, b), onSecond(t, trimmed(t, m), b), most)
}

// TestTurnedRuns: those of which Trim is Fold.
func TestTurnedRuns(t *testing.T) {
	for what, m := range turned(t) {
		f := folded(t, m)
		for _, inputs := range [][]uint64{nil, {0}, {1}} {
			b := begin{inputs: inputs}
			lockstep(t, m, f, b)
			checkLike(t, "19.4: "+what, onSecond(t, m, b), onSecond(t, trimmed(t, m), b), most)
			// Packed it is refused, but runs like it all the same.
			checkLike(t, "19.4: "+what+", packed", onFirst(t, m, b), onFirst(t, trim.Pack(f), b), most)
		}
	}
}

// TestSmallLanguage: programs that Compile makes, which are always taken.
func TestSmallLanguage(t *testing.T) {
	for _, source := range []string{
		"words a 8\ncomp main uses a {\n  fn fill(n) { let i = 0 while i < n { a[i] = i * i i = i + 1 } let t = sum(a) return t }\n}\ncomp other {\n  fn sum(p: reads a) { let i = 0 let s = 0 while i < 8 { s = s + p[i] i = i + 1 } return s }\n}\n",
		"comp c { fn f(n) { if 1 < 2 { out 5 } if 2 < 1 { out 6 } while 1 < 0 { out 7 } out 2 * 3 + 4 return n } }",
	} {
		m, e, line := lang.Compile(source)
		if e != api.OK {
			t.Fatalf("Compile: %d, line %d of\n%s", e, line, source)
		}
		f, z := folded(t, m), trimmed(t, m)
		checkFolded(t, "the small language", m, f)
		for _, n := range []uint64{0, 1, 4, 8, 9, top} {
			b := begin{args: []uint64{n}}
			lockstep(t, m, f, b)
			checkLike(t, "19.4: the small language", onFirst(t, m, b), onFirst(t, z, b), 2000)
			checkLike(t, "19.4: the small language, on the second machine", onSecond(t, m, b), onSecond(t, z, b), 2000)
		}
	}
}
