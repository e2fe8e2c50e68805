package fastvm_test

import (
	"fmt"
	"testing"

	"paddock/api"
)

// house is a program of two gates: the first calls the second, which has so many arguments and results.
func house(t testing.TB, depth int, args int, results int, outer string, inner string) api.Program {
	t.Helper()
	p := api.Program{Code: [][]api.FInst{bare(t, outer), bare(t, inner)}, Memory: varied(), Depth: depth}
	p.Gates = []api.FEntry{{Roots: regs()}, {Entry: 1, Args: args, Results: results}}
	for k := range p.Gates[1].Roots {
		p.Gates[1].Roots[k] = 7000 + uint64(k)
	}
	return p
}

// TestCall: of the arguments r1, r2, .. stay; all else is what Roots say, r0 too.
func TestCall(t *testing.T) {
	for args := range 8 {
		x := begin(t, house(t, 1, args, 0, "fnop;fcall a1 b2 c3 i1;ftrap", "ftrap;fout a1;fret"), 0, nil, []uint64{5})
		x.Step()
		before := lookAt(x)
		want := before
		want.snap = api.FSnap{Gate: 1, Pc: 1, Depth: 1}
		for k := range want.snap.Regs {
			want.snap.Regs[k] = 7000 + uint64(k)
			if k >= 1 && k <= args {
				want.snap.Regs[k] = before.snap.Regs[k]
			}
		}
		what := fmt.Sprintf("13.3: FCALL with %d arguments", args)
		checkOutcome(t, what, x.Step(), api.Outcome{Gate: 1, Pc: 1})
		checkLook(t, what, x, want)
	}
}

// TestRet: the results stay, as many as the gate says that was at hand; all else is as it was ahead of the FCALL.
func TestRet(t *testing.T) {
	writeOver := "ftrap;fli a0 i90;fli a1 i91;fli a2 i92;fli a3 i93;fli a4 i94;fli a5 i95;fli a6 i96;fli a7 i97;fli a8 i98;fli a15 i99;fret a1 b2 c3 i7"
	for results := range 8 {
		p := house(t, 1, 3, results, "fcall i1;ftrap i6;ftrap i7", writeOver)
		p.Gates[0].Results = 7 - results
		x := begin(t, p, 0, nil, nil)
		want := lookAt(x)
		want.snap.Pc = 1
		for k := 1; k <= results; k++ {
			want.snap.Regs[k] = 90 + uint64(k)
		}
		for range 11 {
			x.Step()
		}
		what := fmt.Sprintf("13.3: FRET with %d results", results)
		checkOutcome(t, what, x.Step(), api.Outcome{Pc: 1})
		checkLook(t, what, x, want)
	}
}

// TestRetAtTheBottom: the results are of the gate at hand.
func TestRetAtTheBottom(t *testing.T) {
	for results := range 8 {
		p := alone(t, regs(), "fli a1 i-5;fret")
		p.Gates[0].Results = results
		x := begin(t, p, 0, nil, nil)
		x.Step()
		before := lookAt(x)
		want := api.Outcome{End: api.Halted, Pc: 1}
		if results > 0 {
			want.Value = top - 4
		}
		what := fmt.Sprintf("FRET at the bottom with %d results", results)
		checkOutcome(t, "13.3: "+what, x.Step(), want)
		checkLook(t, "13.3: "+what, x, before)
		checkOver(t, what, x, want)
	}
	// The second gate by itself, and come back to the first one.
	p := house(t, 1, 0, 2, "fcall i1;fret", "fnop;fli a1 i8;fret")
	checkOutcome(t, "13.3: FRET of the second gate", begin(t, p, 1, nil, nil).Run(9), api.Outcome{End: api.Halted, Value: 8, Gate: 1, Pc: 2})
	checkOutcome(t, "13.3: FRET of the first gate, behind a call", begin(t, p, 0, nil, nil).Run(9), api.Outcome{End: api.Halted, Pc: 1})
	p.Gates[0].Results, p.Gates[1].Results = 1, 0
	checkOutcome(t, "13.3: FRET of the second gate", begin(t, p, 1, nil, nil).Run(9), api.Outcome{End: api.Halted, Gate: 1, Pc: 2})
	checkOutcome(t, "13.3: FRET of the first gate, behind a call", begin(t, p, 0, nil, nil).Run(9), api.Outcome{End: api.Halted, Value: 1100, Pc: 1})
}

// TestDepth: calls in calls as many as Depth says, and no more; behind an FRET there is room again.
func TestDepth(t *testing.T) {
	for depth := range api.MaxDepth + 1 {
		p := house(t, depth, 1, 0, "fcall i1;fcall i1;fcall i1;ftrap", "ftrap;faddi a1 b1 i1;fout a1;fcall i1;ftrap")
		x := begin(t, p, 0, nil, nil)
		want := api.Outcome{End: api.Overflow, Gate: 1, Pc: 3}
		if depth == 0 {
			want = api.Outcome{End: api.Overflow}
		}
		for x.Step().End == api.Running {
		}
		before := lookAt(x)
		if before.snap.Depth != depth || len(before.out) != depth {
			t.Errorf("13.3: FCALL with the depth %d: %+v, %v", depth, before.snap, before.out)
		}
		what := fmt.Sprintf("FCALL with the depth %d", depth)
		checkOutcome(t, "13.3: "+what, x.Step(), want)
		checkOver(t, what, x, want)
	}
	p := house(t, 1, 1, 1, "fcall i1;fcall i1;fcall i1;fhalt a1", "ftrap;faddi a1 b1 i1;fret")
	checkOutcome(t, "13.3: calls one behind the other", begin(t, p, 0, nil, nil).Run(50), api.Outcome{End: api.Halted, Value: 1103, Pc: 3})
}

// TestOverflowChanges nothing: not the registers, and not the stack.
func TestOverflowChanges(t *testing.T) {
	x := begin(t, house(t, 1, 2, 1, "fcall i1;ftrap", "ftrap;fcall;fret"), 0, nil, nil)
	x.Step()
	before := lookAt(x)
	want := api.Outcome{End: api.Overflow, Gate: 1, Pc: 1}
	checkOutcome(t, "13.3: Overflow", x.Step(), want)
	checkLook(t, "13.3: Overflow", x, before)
	checkOver(t, "Overflow", x, want)
}

// TestCallAtTheRowsEnd: what is behind it is come back to, and is not there.
func TestCallAtTheRowsEnd(t *testing.T) {
	x := begin(t, house(t, 1, 0, 0, "fnop;fcall i1", "fnop;fret"), 0, nil, nil)
	for range 2 {
		x.Step()
	}
	checkOutcome(t, "13.3: FRET to behind the row", x.Step(), api.Outcome{Pc: 2})
	checkOutcome(t, "13.3: behind the row", x.Step(), api.Outcome{End: api.Faulted, Fault: api.FTarget, Pc: 2})
}

// TestItself: a gate that calls itself has each call's registers by themselves.
func TestItself(t *testing.T) {
	p := bareGate(t, 9, "fbeq a1 b0 i6;fmov a2 b1;faddi a1 b1 i-1;fcall;fadd a1 b1 c2;fret;fret")
	p.Gates[0].Args, p.Gates[0].Results = 1, 1
	for n := range uint64(12) {
		want := api.Outcome{End: api.Halted, Value: n * (n + 1) / 2, Pc: 5}
		switch {
		case n == 0:
			want.Pc = 6
		case n > 9:
			want = api.Outcome{End: api.Overflow, Pc: 3}
		}
		checkOutcome(t, fmt.Sprintf("13.3: the sum up to %d", n), begin(t, p, 0, []uint64{n}, nil).Run(1000), want)
	}
}
