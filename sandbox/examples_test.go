package sandbox_test

import (
	"testing"

	"paddock/api"
	"paddock/sandbox"
)

// five is the chapter's own program.
const five = "depth 1;comp;li r1 5;halt r1;gate main 0 0 ->"

// TestChapterExamples: the rows of its table.
func TestChapterExamples(t *testing.T) {
	checkWrong(t, "no bytes", "", api.ErrMagic, 0)
	p := loaded(t, five)
	checkRuns(t, "the chapter's program", p, begun{fuel: 10}, api.Result{Outcome: halted(5, 1)})
	checkRuns(t, "the chapter's program, fuel 1", p, begun{fuel: 1}, api.Result{Outcome: spent(1)})
	q, e, at, r := sandbox.Load(encoded(t, parse(t, "depth 1;comp;lw r1 r2 0;halt r1;gate main 0 0 ->")))
	if q != nil || e != api.ErrCheck || at != 0 || r.Reason != api.RCap || r.Gate != 0 || r.Pc != 0 {
		t.Errorf("16.1: the chapter's example that is refused: %d, %d, %+v", e, at, r)
	}
}

// example is one of the document's own, with fuel enough.
type example struct {
	name  string
	text  string
	begun begun
	want  api.Result
}

const (
	sum     = "region 0 32 bytes #05060708;comp;root r8 0 32 0 r 0;"
	reading = "depth 1;" + sum + "in r1;glt r1 32 9;cinc r2 r8 r1;lb r3 r2 0;halt r3;gate main 0 0 ->"
	adding  = "depth 1;" + sum + "li r1 0;li r2 0;li r3 4;next: bge r2 r3 done;glt r2 32 9;cinc r4 r8 r2;lb r5 r4 0;add r1 r1 r5;addi r2 r2 1;jmp next;done: halt r1;gate main 0 0 ->"
	lent    = "depth 2;region 0 32 bytes #01020304;comp;root r8 0 32 0 rw 0;candp r1 r8 r;call peek;halt r1;comp;lb r1 r1 3;ret;gate main 0 0 ->;gate peek 1 0 cap 0 32 0 0 r 0 -> int"
	sealed  = "depth 2;region 0 16 bytes #2a;comp;root r8 0 16 0 r 0;root r9 0 16 5 s 0;cseal r1 r8 r9;call keep;halt r1;comp;root r10 0 16 5 u 0;cunseal r2 r1 r10;lb r1 r2 0;ret;gate main 0 0 ->;gate keep 1 0 cap 0 16 0 0 r 5 -> int"
	places  = "depth 1;region 0 16 bytes #07;region 16 32 slots;slot cap 0 16 0 15 rw 0 at 0;slot cap 0 16 0 15 rw 0 at 9;comp;root r8 16 48 16 cd 0;lc r1 r8 0;lc r2 r8 16;sc r1 r8 16;lc r3 r8 16;csame r4 r1 r3;cbase r5 r2;caddr r6 r3;out r4;out r5;out r6;halt r0;gate main 0 0 ->"
	going   = "depth 1;comp;cpc r1 3;jc r1;trap 7;ctag r2 r1;halt r2;gate main 0 0 ->"
	calling = "depth 3;comp;addi r1 r1 1;out r1;call main;ret;gate main 0 0 int ->"
	round   = "depth 1;comp;top: jmp top;gate main 0 0 ->"
)

func examples() []example {
	plenty := begun{fuel: 1000}
	return []example{
		{"1", reading, begun{inputs: []uint64{2}, fuel: 1000}, api.Result{Outcome: halted(7, 4), Touches: []api.Touch{load(2, 1)}}},
		{"1, with 40", reading, begun{inputs: []uint64{40}, fuel: 1000}, api.Result{Outcome: api.Outcome{End: api.Guarded, Value: 9, Pc: 1}}},
		{"1, without an input", reading, plenty, api.Result{Outcome: api.Outcome{End: api.Starved}}},
		{"3", adding, plenty, api.Result{Outcome: halted(26, 10), Touches: []api.Touch{load(0, 1), load(1, 1), load(2, 1), load(3, 1)}}},
		{"4", lent, plenty, api.Result{Outcome: halted(4, 2), Touches: []api.Touch{load(3, 1)}}},
		{"5", sealed, plenty, api.Result{Outcome: halted(42, 2), Touches: []api.Touch{load(0, 1)}}},
		{"6", places, plenty, api.Result{Outcome: halted(0, 10), Out: []uint64{1, 0, 0}, Touches: []api.Touch{load(16, 16), load(32, 16), store(32, 16), load(32, 16)}}},
		{"7", going, plenty, api.Result{Outcome: halted(1, 4)}},
		{"8", calling, begun{args: []uint64{0}, fuel: 1000}, api.Result{Outcome: api.Outcome{End: api.Overflow, Pc: 2}, Out: []uint64{1, 2, 3, 4}}},
		{"8, with fuel 5", calling, begun{args: []uint64{0}, fuel: 5}, api.Result{Outcome: spent(2), Out: []uint64{1, 2}}},
		{"9", round, begun{fuel: 1 << 40}, api.Result{Outcome: spent(0)}},
	}
}

// TestExamplesOfTheWhole: those of which a program is taken.
func TestExamplesOfTheWhole(t *testing.T) {
	for _, x := range examples() {
		checkRuns(t, "Example "+x.name, loaded(t, x.text), x.begun, x.want)
	}
}

// TestRefusedExamplesOfTheWhole: those that have no Program.
func TestRefusedExamplesOfTheWhole(t *testing.T) {
	for _, x := range []struct {
		name, text string
		why        api.Reason
		gate, pc   int
	}{
		{"2", "depth 1;" + sum + "in r1;cinc r2 r8 r1;lb r3 r2 0;halt r3;gate main 0 0 ->", api.RBounds, 0, 2},
		{"4, with sb", replaced(t, lent, "lb r1 r1 3", "sb r0 r1 3"), api.RPerm, 1, 0},
		{"4, with mov", replaced(t, lent, "candp r1 r8 r", "mov r1 r8"), api.RArgs, 0, 1},
		{"5, without a root", replaced(t, sealed, "root r10 0 16 5 u 0;cunseal r2 r1 r10;lb r1 r2 0", "lb r1 r1 0"), api.RSeal, 1, 0},
		{"9, with addi", "depth 1;comp;addi r1 r1 1;gate main 0 0 ->", api.RFall, 0, 0},
	} {
		p, e, at, r := sandbox.Load(encoded(t, parse(t, x.text)))
		if p != nil || e != api.ErrCheck || at != 0 || r.Reason != x.why || r.Gate != x.gate || r.Pc != x.pc {
			t.Errorf("16.1: Example %s: %v, %d, %d, Reason %d at %d of the gate %d", x.name, p != nil, e, at, r.Reason, r.Pc, r.Gate)
		}
	}
}
