package fastvm_test

import (
	"slices"
	"testing"

	"paddock/api"
)

// bareGate is a program of one gate, whose roots are 0, with memory of noughts.
func bareGate(t testing.TB, depth int, code string) api.Program {
	t.Helper()
	return api.Program{Code: [][]api.FInst{bare(t, code)}, Gates: []api.FEntry{{}}, Depth: depth}
}

func TestExampleOne(t *testing.T) {
	x := begin(t, bareGate(t, 1, "fli a1 i5;fsb a1 b8 i3;flb a2 b8 i3;fhalt a2"), 0, nil, nil)
	checkOutcome(t, "Examples 1", x.Run(10), api.Outcome{End: api.Halted, Value: 5, Pc: 3})
	if got := x.Touches(); !slices.Equal(got, []api.Touch{{Store: true, Addr: 3, Size: 1}, {Addr: 3, Size: 1}}) {
		t.Errorf("Examples 1: touched %+v", got)
	}
}

func TestExampleTwo(t *testing.T) {
	bounds := api.Outcome{End: api.Faulted, Fault: api.FBounds}
	for code, want := range map[string]api.Outcome{
		"flw a1 i65528": {Pc: 1}, "flw a1 i65529": bounds, "flc a1 i65520": {Pc: 1}, "flc a1 i65521": bounds,
	} {
		checkOutcome(t, "Examples 2: "+code, begin(t, bareGate(t, 1, code), 0, nil, nil).Step(), want)
	}
	p := bareGate(t, 1, "flb a1 b2 i1")
	p.Gates[0].Roots[2], p.Memory = top, "*"
	x := begin(t, p, 0, nil, nil)
	if o := x.Step(); o != (api.Outcome{Pc: 1}) || x.Snap().Regs[1] != '*' {
		t.Errorf("Examples 2: B + Imm goes round: %+v, %+v", o, x.Snap())
	}
}

func TestExampleThree(t *testing.T) {
	x := begin(t, bareGate(t, 1, "fin a1;fhalt a1"), 0, nil, nil)
	checkOutcome(t, "Examples 3", x.Step(), api.Outcome{End: api.Starved})
	x.Give()
	checkOutcome(t, "Examples 3: Give()", x.Step(), api.Outcome{End: api.Starved})
	x.Give(7)
	checkOutcome(t, "Examples 3: behind Give(7)", x.Step(), api.Outcome{Pc: 1})
	checkOutcome(t, "Examples 3", x.Step(), api.Outcome{End: api.Halted, Value: 7, Pc: 1})
}

func TestExampleFour(t *testing.T) {
	checkOutcome(t, "Examples 4: FCALL", begin(t, bareGate(t, 0, "fcall"), 0, nil, nil).Step(), api.Outcome{End: api.Overflow})
	checkOutcome(t, "Examples 4: FRET", begin(t, bareGate(t, 0, "fret"), 0, nil, nil).Step(), api.Outcome{End: api.Halted})
	x := begin(t, bareGate(t, 0, "fnop"), 0, nil, nil)
	checkOutcome(t, "Examples 4: FNop", x.Step(), api.Outcome{Pc: 1})
	checkOutcome(t, "Examples 4: FNop", x.Step(), api.Outcome{End: api.Faulted, Fault: api.FTarget, Pc: 1})
}
