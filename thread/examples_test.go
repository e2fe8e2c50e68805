package thread_test

import (
	"testing"

	"paddock/api"
	"paddock/thread"
)

func TestExampleOne(t *testing.T) {
	p := plain(t, 1, "fli a1 i5;fsb a1 b8 i3;flb a2 b8 i3;fhalt a2")
	checkRun(t, "Examples 1", p, nil, 10, api.Result{Outcome: halted(5, 3), Touches: []api.Touch{store(3, 1), load(3, 1)}})
	checkRun(t, "Examples 1, with fuel 2", p, nil, 2, api.Result{Outcome: spent(2), Touches: []api.Touch{store(3, 1)}})
	checkBlocks(t, "Examples 1", p, 0, 1)
}

func TestExampleTwo(t *testing.T) {
	p := plain(t, 1, "fli a1 i3;faddi a1 b1 i-1;fbne a1 b0 i1;fhalt a1")
	checkBlocks(t, "Examples 2", p, 0, 3)
	checkOutcome(t, "Examples 2, with fuel 4", p, nil, 4, spent(2))
	// Three rounds, of two instructions each.
	checkOutcome(t, "Examples 2, with fuel 7", p, nil, 7, spent(3))
	checkOutcome(t, "Examples 2, with fuel 8", p, nil, 8, halted(0, 3))
}

func TestExampleThree(t *testing.T) {
	p := plain(t, 1, "fnop")
	checkOutcome(t, "Examples 3, with fuel 1", p, nil, 1, spent(1))
	checkOutcome(t, "Examples 3, with fuel 2", p, nil, 2, faulted(api.FTarget, 1))
}

// TestExamplesOfTheMachine: those of chapter 13 that can be asked of a run from its beginning.
func TestExamplesOfTheMachine(t *testing.T) {
	bounds := faulted(api.FBounds, 0)
	for code, want := range map[string]api.Outcome{
		"flw a1 i65528": spent(1), "flw a1 i65529": bounds, "flc a1 i65520": spent(1), "flc a1 i65521": bounds,
	} {
		checkOutcome(t, "13, Examples 2: "+code, plain(t, 1, code), nil, 1, want)
	}
	p := plain(t, 1, "flb a1 b2 i1;fhalt a1")
	p.Gates[0].Roots[2], p.Memory = top, "*"
	checkOutcome(t, "13, Examples 2: B + Imm goes round", p, nil, 9, halted('*', 1))
	in := plain(t, 1, "fin a1;fhalt a1")
	checkOutcome(t, "13, Examples 3", in, nil, 9, ended(api.Starved, 0, 0))
	checkOutcome(t, "13, Examples 3", in, []uint64{7}, 9, halted(7, 1))
	checkOutcome(t, "13, Examples 4: FCALL", plain(t, 0, "fcall"), nil, 9, ended(api.Overflow, 0, 0))
	checkOutcome(t, "13, Examples 4: FRET", plain(t, 0, "fret"), nil, 9, halted(0, 0))
}

func TestNil(t *testing.T) {
	var none *thread.Code
	for range 2 {
		for _, gate := range []int{least, -1, 0, 1, 15, 16, most} {
			checkEmpty(t, "of nil", none, gate, nil, nil, 9, api.ErrEntry)
			checkEmpty(t, "of nil", none, gate, []uint64{1}, []uint64{2}, most, api.ErrEntry)
			if n := none.Blocks(gate); n != 0 {
				t.Errorf("23.3: of nil: Blocks(%d) is %d", gate, n)
			}
		}
	}
}
