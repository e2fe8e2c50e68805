package reach_test

import (
	"slices"
	"testing"

	"paddock/api"
	"paddock/reach"
)

const (
	reads  = "depth 1;region 0 32 bytes #05060708;comp;root r8 0 32 0 r 0;in r1;glt r1 32 9;cinc r2 r8 r1;lb r3 r2 0;halt r3;gate main 0 0 ->"
	wilder = "depth 1;region 0 32 bytes #05060708;comp;root r8 0 32 0 r 0;in r1;cinc r2 r8 r1;lb r3 r2 0;halt r3;gate main 0 0 ->"
	sums   = "depth 1;region 0 32 bytes #05060708;comp;root r8 0 32 0 r 0;li r1 0;li r2 0;li r3 4;next: bge r2 r3 done;glt r2 32 9;cinc r4 r8 r2;lb r5 r4 0;add r1 r1 r5;addi r2 r2 1;jmp next;done: halt r1;gate main 0 0 ->"
	lends  = "depth 2;region 0 32 bytes #01020304;comp;root r8 0 32 0 rw 0;candp r1 r8 r;call peek;halt r1;comp;lb r1 r1 3;ret;gate main 0 0 ->;gate peek 1 0 cap 0 32 0 0 r 0 -> int"
	stores = "depth 2;region 0 32 bytes #01020304;comp;root r8 0 32 0 rw 0;candp r1 r8 r;call peek;halt r1;comp;sb r0 r1 3;ret;gate main 0 0 ->;gate peek 1 0 cap 0 32 0 0 r 0 -> int"
	seals  = "depth 2;region 0 16 bytes #2a;comp;root r8 0 16 0 r 0;root r9 0 16 5 s 0;cseal r1 r8 r9;call keep;halt r1;comp;root r10 0 16 5 u 0;cunseal r2 r1 r10;lb r1 r2 0;ret;gate main 0 0 ->;gate keep 1 0 cap 0 16 0 0 r 5 -> int"
	keeps  = "depth 1;region 0 16 bytes #07;region 16 32 slots;slot cap 0 16 0 15 rw 0 at 0;slot cap 0 16 0 15 rw 0 at 9;comp;root r8 16 48 16 cd 0;lc r1 r8 0;lc r2 r8 16;sc r1 r8 16;lc r3 r8 16;csame r4 r1 r3;cbase r5 r2;caddr r6 r3;out r4;out r5;out r6;halt r0;gate main 0 0 ->"
	jumps  = "depth 1;comp;cpc r1 3;jc r1;trap 7;ctag r2 r1;halt r2;gate main 0 0 ->"
	calls  = "depth 3;comp;addi r1 r1 1;out r1;call main;ret;gate main 0 0 int ->"
)

// TestExamplesOfTheWhole: those that are taken, and those that are not; each with what its compartments are granted.
func TestExamplesOfTheWhole(t *testing.T) {
	for text, x := range map[string]struct {
		taken  bool
		end    api.Outcome
		grants [][]api.Cap
	}{
		reads:  {true, api.Outcome{End: api.Halted, Value: 7, Pc: 4}, [][]api.Cap{{of(0, 32, 0, api.Load, 0), codeOf(0, 5)}}},
		wilder: {false, api.Outcome{End: api.Halted, Value: 7, Pc: 3}, [][]api.Cap{{of(0, 32, 0, api.Load, 0), codeOf(0, 4)}}},
		sums:   {true, api.Outcome{End: api.Halted, Value: 26, Pc: 10}, [][]api.Cap{{of(0, 32, 0, api.Load, 0), codeOf(0, 11)}}},
		lends:  {true, api.Outcome{End: api.Halted, Value: 4, Pc: 2}, [][]api.Cap{{of(0, 32, 0, rw, 0), codeOf(0, 3)}, {of(0, 32, 0, api.Load, 0), codeOf(1, 2)}}},
		stores: {false, api.Outcome{End: api.Faulted, Fault: api.FPerm, Gate: 1}, [][]api.Cap{{of(0, 32, 0, rw, 0), codeOf(0, 3)}, {of(0, 32, 0, api.Load, 0), codeOf(1, 2)}}},
		seals:  {true, api.Outcome{End: api.Halted, Value: 42, Pc: 2}, [][]api.Cap{{of(0, 16, 0, api.Load, 0), of(0, 16, 5, api.Seal, 0), codeOf(0, 3)}, {of(0, 16, 0, api.Load, 0), of(0, 16, 0, api.Load, 5), of(0, 16, 5, api.Unseal, 0), codeOf(1, 3)}}},
		keeps:  {true, api.Outcome{End: api.Halted, Pc: 10}, [][]api.Cap{{of(0, 16, 0, rw, 0), of(16, 48, 16, api.LoadCap|api.StoreCap, 0), codeOf(0, 11)}}},
		jumps:  {true, api.Outcome{End: api.Halted, Value: 1, Pc: 4}, [][]api.Cap{{codeOf(0, 5)}}},
		calls:  {true, api.Outcome{End: api.Overflow, Pc: 2}, [][]api.Cap{{codeOf(0, 4)}}},
	} {
		m := parse(t, text)
		if isTaken(m) != x.taken {
			t.Fatalf("whether it is taken is %t, want %t: %s", isTaken(m), x.taken, text)
		}
		for comp, want := range x.grants {
			checkGrant(t, text, m, comp, want...)
		}
		f := begin(t, m, []uint64{2}, untold())
		f.isTaken = x.taken
		if o := f.run(t); o != x.end {
			t.Errorf("%+v, want %+v: %s", o, x.end, text)
		}
	}
}

// TestACallHasBothSides: what is come to behind it is not within what could be come to ahead of it, nor behind the return within what the one that was called could.
func TestACallHasBothSides(t *testing.T) {
	f := begin(t, parse(t, seals), nil, untold())
	f.run(t)
	if f.tally.grown != 2 || f.tally.ops[api.CALL] != 1 || f.tally.ops[api.RET] != 1 {
		t.Errorf("T3: more could be come to behind %d steps, want the call and the return", f.tally.grown)
	}
	if f.tally.touches != 1 {
		t.Errorf("14.7: touched %d times, want once", f.tally.touches)
	}
}

// TestLessIsComeTo: behind steps that throw away what was there, in registers or in memory.
func TestLessIsComeTo(t *testing.T) {
	m := parse(t, "depth 1;region 0 16 bytes;region 16 16 slots;slot cap 0 16 0 0 rw 0 at 0;comp;root r8 16 32 16 rcd 0;root r9 16 32 16 w 0;lb r1 r8 0;sb r0 r9 3;mov r8 r0;halt r0;gate main 0 0 ->")
	f := begin(t, m, nil, untold())
	for pc, want := range [][]api.Cap{
		{of(0, 16, 0, rw, 0), of(16, 32, 16, api.Store, 0), of(16, 32, 16, api.Load|api.LoadCap|api.StoreCap, 0), codeOf(0, 4)},
		{of(0, 16, 0, rw, 0), of(16, 32, 16, api.Store, 0), of(16, 32, 16, api.Load|api.LoadCap|api.StoreCap, 0), codeOf(0, 4)},
		{of(16, 32, 16, api.Store, 0), of(16, 32, 16, api.Load|api.LoadCap|api.StoreCap, 0), codeOf(0, 4)},
		{of(16, 32, 16, api.Store, 0), codeOf(0, 4)},
	} {
		if f.at.Pc != pc {
			t.Fatalf("at %d, want %d", f.at.Pc, pc)
		}
		checkCaps(t, "14.3: on the first machine", f.dom, want)
		f.step(t)
	}
}

// TestBeyondItsGrant: a program that is not taken may lay a capability where no slot is, and so hand it on; what is gained by that is within both sides, but not within the Grant.
func TestBeyondItsGrant(t *testing.T) {
	m := parse(t, "depth 2;region 0 32 bytes;comp;root r8 16 32 16 d 0;root r9 0 16 0 rw 0;sc r9 r8 0;call b;halt r0;comp;root r8 16 32 16 c 0;lc r1 r8 0;sb r0 r1 0;ret;gate a 0 0 ->;gate b 1 0 ->")
	if isTaken(m) {
		t.Fatalf("it is taken")
	}
	f := begin(t, m, nil, untold())
	if o := f.run(t); o != (api.Outcome{End: api.Halted, Pc: 2}) {
		t.Fatalf("%+v, want Halted", o)
	}
	if f.tally.beyond != 3 {
		t.Errorf("14.6: %d steps were beyond the Grant, want the three of the second compartment", f.tally.beyond)
	}
	if grant := reach.Grant(m, 1); slices.Contains(grant, of(0, 16, 0, rw, 0)) || reach.Covers(grant, api.Touch{Store: true, Size: 1}) {
		t.Errorf("14.6: the second compartment is granted %v", grant)
	}
}
