package bound_test

import (
	"testing"

	"paddock/api"
)

// told is what is looked for of a gate.
type told struct {
	cost api.Cost
	deep int
}

func knows(steps, calls, inputs uint64) told { return told{cost(steps, calls, inputs), int(calls)} }

// deepAlone is where Deep alone knows.
func deepAlone(deep int) told { return told{unknown, deep} }

var nothing = told{unknown, endless}

func checkAll(t *testing.T, what string, m api.Image, want ...told) {
	t.Helper()
	if len(want) != len(m.Gates) {
		t.Fatalf("%s: %d gates, %d wants", what, len(m.Gates), len(want))
	}
	for gate, w := range want {
		check(t, what, m, gate, w.cost, w.deep)
	}
}

// TestCallsItself: by one gate, by two, by more; and gates that call one that does.
func TestCallsItself(t *testing.T) {
	for _, x := range []struct {
		what  string
		codes []string
		want  []told
	}{
		{"by one", []string{"call 0;ret"}, []told{nothing}},
		{"as the last instruction", []string{"in r1;call 0"}, []told{nothing}},
		{"on one way alone", []string{"beq r1 r0 2;call 0;ret"}, []told{nothing}},
		{"by two", []string{"call 1;ret", "call 0;ret"}, []told{nothing, nothing}},
		{"by four", []string{"call 1;ret", "call 2;ret", "call 3;ret", "call 0;ret"}, []told{nothing, nothing, nothing, nothing}},
		{"one that is called", []string{"call 1;ret", "call 1;ret"}, []told{nothing, nothing}},
		{"two that are called", []string{"call 1;ret", "call 2;ret", "call 1;ret"}, []told{nothing, nothing, nothing}},
		{"one that is called by one that is called", []string{"call 1;ret", "call 2;ret", "call 2"}, []told{nothing, nothing, nothing}},
		{"one that is called, behind another", []string{"call 1;call 2;ret", "in r1;ret", "call 2;ret"}, []told{nothing, knows(2, 0, 1), nothing}},
		{"one that is called, ahead of another", []string{"call 2;call 1;ret", "in r1;ret", "call 2;ret"}, []told{nothing, knows(2, 0, 1), nothing}},
		{"one that is not called", []string{"call 1;ret", "ret", "call 2;ret"}, []told{knows(3, 1, 0), knows(1, 0, 0), nothing}},
		{"one that calls others", []string{"call 1;ret", "call 2;ret", "ret", "call 0;call 3;ret"}, []told{knows(5, 2, 0), knows(3, 1, 0), knows(1, 0, 0), nothing}},
		{"two that meet in a round of calls", []string{"call 2;ret", "call 2;ret", "call 3;ret", "call 2;ret"}, []told{nothing, nothing, nothing, nothing}},
		{"a round of calls that has a way out", []string{"call 1;call 2;ret", "call 0;call 2;ret", "ret"}, []told{nothing, nothing, knows(1, 0, 0)}},
		{"a CALL that is not come to", []string{"ret;call 0"}, []told{knows(1, 0, 0)}},
		{"a CALL that is jumped over", []string{"jmp 2;call 0;in r1"}, []told{knows(3, 0, 1)}},
		{"a CALL that is not come to, of two", []string{"call 1;ret;call 0", "in r1;halt r1;call 0;call 1"}, []told{knows(4, 1, 1), knows(2, 0, 1)}},
	} {
		checkAll(t, "calls itself: "+x.what, program(t, x.codes...), x.want...)
	}
}

// TestKnowsNothing: gates of which nothing is known that are called, and others that are not.
func TestKnowsNothing(t *testing.T) {
	for _, x := range []struct {
		what  string
		codes []string
		want  []told
	}{
		{"called", []string{"call 1;ret", "jmp 0"}, []told{deepAlone(1), deepAlone(0)}},
		{"called last", []string{"call 1", "jmp 0"}, []told{deepAlone(1), deepAlone(0)}},
		{"called on one way alone", []string{"beq r1 r0 2;call 1;ret", "in r1;jc r1"}, []told{deepAlone(1), deepAlone(0)}},
		{"called by one that is called", []string{"call 1;ret", "call 2;ret", "jmp 0"}, []told{deepAlone(2), deepAlone(1), deepAlone(0)}},
		{"called behind another", []string{"call 2;call 1;ret", "beq r1 r0 0;ret", "ret"}, []told{deepAlone(1), deepAlone(0), knows(1, 0, 0)}},
		{"not called", []string{"call 2;ret", "jmp 0", "ret"}, []told{knows(3, 1, 0), deepAlone(0), knows(1, 0, 0)}},
		{"called where nobody comes", []string{"call 2;ret;call 1", "jmp 0", "ret;call 1;ret"}, []told{knows(3, 1, 0), deepAlone(0), knows(1, 0, 0)}},
		{"a round, and calls itself", []string{"call 1;ret", "call 1;jmp 0"}, []told{nothing, nothing}},
		{"a round here, itself there", []string{"call 1;jmp 0", "call 1;ret"}, []told{nothing, nothing}},
	} {
		checkAll(t, "nothing is known: "+x.what, program(t, x.codes...), x.want...)
	}
}

// TestSharedCalls: the same gate called twice, and by two gates.
func TestSharedCalls(t *testing.T) {
	for _, x := range []struct {
		what  string
		codes []string
		want  []told
	}{
		{"twice, a row", []string{"call 1;call 1", "in r1;out r1;ret"}, []told{knows(9, 1, 2), knows(3, 0, 1)}},
		{"on each of two ways", []string{"beq r1 r0 3;call 1;ret;nop;call 1;ret", "in r1;out r1;ret"}, []told{knows(7, 1, 1), knows(3, 0, 1)}},
		{"by two", []string{"call 1;call 2;ret", "call 3;ret", "call 3;call 3;ret", "in r1;ret"}, []told{knows(14, 2, 3), knows(4, 1, 1), knows(7, 1, 2), knows(2, 0, 1)}},
		{"by one and by what it calls", []string{"call 1;call 2;ret", "call 2;ret", "in r1;ret"}, []told{knows(9, 2, 2), knows(4, 1, 1), knows(2, 0, 1)}},
		{"by one that has a round", []string{"call 1;call 2;ret", "call 2;jmp 0", "in r1;ret"}, []told{deepAlone(2), deepAlone(1), knows(2, 0, 1)}},
	} {
		checkAll(t, "shared: "+x.what, program(t, x.codes...), x.want...)
	}
}

// TestOneCompartment: gates of one compartment call one another; that code goes on behind them is no matter of theirs.
func TestOneCompartment(t *testing.T) {
	m := gated(t, []string{"call 1;ret;call 2;ret;in r1;ret"}, "0 0", "0 2", "0 4")
	checkAll(t, "a chain in one code", m, knows(6, 2, 1), knows(4, 1, 1), knows(2, 0, 1))
	m = gated(t, []string{"call 1;in r1;in r1;ret"}, "0 0", "0 1", "0 2", "0 3")
	checkAll(t, "into its own code", m, knows(7, 1, 4), knows(3, 0, 2), knows(2, 0, 1), knows(1, 0, 0))
	m = gated(t, []string{"call 1;in r1;call 0;ret"}, "0 0", "0 1", "0 3")
	checkAll(t, "into its own code, and round", m, nothing, nothing, knows(1, 0, 0))
	m = gated(t, []string{"call 1;ret"}, "0 0", "0 0")
	checkAll(t, "two gates at one entry", m, nothing, nothing)
	m = gated(t, []string{"call 1;ret", "ret"}, "0 0", "1 0", "0 0")
	checkAll(t, "two gates at one entry, that end", m, knows(3, 1, 0), knows(1, 0, 0), knows(3, 1, 0))
}

// TestGreatestElsewhere: Steps, Inputs and Calls are each told of where they are greatest, by whichever way.
func TestGreatestElsewhere(t *testing.T) {
	// 1 has most steps, 2 most inputs, 3 the most calls.
	codes := []string{"beq r1 r0 4;beq r1 r0 6;call 1;ret;call 2;ret;call 3;ret", "nop;nop;nop;nop;nop;nop;nop;ret", "in r1;in r1;in r1;ret", "call 4;ret;ret"}
	m := gated(t, codes, "0 0", "1 0", "2 0", "3 0", "3 2")
	checkAll(t, "by three calls", m, knows(12, 2, 3), knows(8, 0, 0), knows(4, 0, 3), knows(3, 1, 0), knows(1, 0, 0))
	// The same on ways that meet again: what is greatest on one way alone is taken of that one.
	codes[0] = "beq r1 r0 4;beq r1 r0 6;call 1;jmp 7;call 2;jmp 7;call 3;beq r1 r0 11;call 3;nop;ret;call 2;ret"
	m = gated(t, codes, "0 0", "1 0", "2 0", "3 0", "3 2")
	checkAll(t, "by three calls, and two", m, knows(19, 2, 6), knows(8, 0, 0), knows(4, 0, 3), knows(3, 1, 0), knows(1, 0, 0))
	// Two called gates, of which one has more steps, the other one more inputs.
	m = program(t, "beq r1 r0 3;call 1;ret;call 2;ret", "in r1;nop;nop;nop;ret", "in r1;in r1;ret")
	checkAll(t, "by two calls", m, knows(8, 1, 2), knows(5, 0, 1), knows(3, 0, 2))
	// The called gate's own Steps and Inputs are of two ways, and are both taken.
	m = program(t, "call 1;ret", "beq r1 r0 5;nop;nop;nop;ret;in r1;ret")
	checkAll(t, "of two ways of a called one", m, knows(7, 1, 1), knows(5, 0, 1))
	// The deepest call is on a short way, and comes first, or last.
	m = program(t, "beq r1 r0 3;call 1;ret;nop;nop;nop;nop;nop;nop;nop;nop;nop;ret", "call 2;ret", "call 3;ret", "ret")
	checkAll(t, "the deepest on a short way", m, knows(11, 3, 0), knows(5, 2, 0), knows(3, 1, 0), knows(1, 0, 0))
}

// TestDeepWithRounds: where Gate knows nothing, Deep may know all the same.
func TestDeepWithRounds(t *testing.T) {
	for _, x := range []struct {
		what  string
		codes []string
		want  []told
	}{
		{"alone", []string{"jmp 0"}, []told{deepAlone(0)}},
		{"a CALL in a round", []string{"call 1;jmp 0", "ret"}, []told{deepAlone(1), knows(1, 0, 0)}},
		{"a CALL behind a round", []string{"bne r1 r0 0;call 1;ret", "ret"}, []told{deepAlone(1), knows(1, 0, 0)}},
		{"a CALL ahead of a round", []string{"call 1;jmp 1", "ret"}, []told{deepAlone(1), knows(1, 0, 0)}},
		{"a CALL behind a round that does not end", []string{"jmp 0;call 1", "ret"}, []told{deepAlone(0), knows(1, 0, 0)}},
		{"rounds in each", []string{"call 1;call 2;jmp 0", "call 2;bne r1 r0 0;call 3;ret", "call 3;jmp 0", "jmp 0"}, []told{deepAlone(3), deepAlone(2), deepAlone(1), deepAlone(0)}},
		{"by a capability of code", []string{"jc r1;call 1;ret", "ret"}, []told{deepAlone(1), knows(1, 0, 0)}},
		{"by one, of what stands ahead", []string{"jmp 2;call 1;jc r1", "ret"}, []told{deepAlone(1), knows(1, 0, 0)}},
		{"by one, of itself", []string{"jmp 2;call 0;jc r1"}, []told{nothing}},
		{"by one that is not come to", []string{"ret;call 0;jc r1"}, []told{knows(1, 0, 0)}},
	} {
		checkAll(t, "rounds: "+x.what, program(t, x.codes...), x.want...)
	}
}
