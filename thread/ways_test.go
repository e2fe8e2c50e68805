package thread

import (
	"slices"
	"testing"

	"paddock/api"
)

// counting puts out 3, 2 and 1, by rows that begin at 0, 1 and 4.
func counting() api.Program {
	return api.Program{
		Code: [][]api.FInst{{
			{Op: api.FLI, A: 1, Imm: 3},
			{Op: api.FOUT, A: 1},
			{Op: api.FADDI, A: 1, B: 1, Imm: ^uint64(0)},
			{Op: api.FBNE, A: 1, B: 0, Imm: 1},
			{Op: api.FNop},
			{Op: api.FHALT, A: 1},
		}},
		Gates: []api.FEntry{{}},
	}
}

// TestRowsOfSteps: each instruction is one step, and those of a row lie behind one another; behind them all there is one for the place behind the code.
func TestRowsOfSteps(t *testing.T) {
	rows := Compile(counting()).gates[0].rows
	var firsts, sizes []int
	for _, w := range rows {
		firsts, sizes = append(firsts, w.first), append(sizes, len(w.steps))
	}
	if !slices.Equal(firsts, []int{0, 1, 4, 6}) || !slices.Equal(sizes, []int{1, 3, 2, 1}) {
		t.Errorf("Ways: rows begin at %v, and have %v steps", firsts, sizes)
	}
}

// TestCalledInTurn: a run calls the steps that were made ready, in turn, and none for which there is no fuel.
func TestCalledInTurn(t *testing.T) {
	c := Compile(counting())
	var called []int
	for _, w := range c.gates[0].rows {
		for k, does := range w.steps {
			w.steps[k] = func(r *run) next {
				called = append(called, w.first+k)
				return does(r)
			}
		}
	}
	all := []int{0, 1, 2, 3, 1, 2, 3, 1, 2, 3, 4, 5}
	for fuel := range 15 {
		called = nil
		r, err := c.Run(0, nil, nil, fuel)
		if !slices.Equal(called, all[:min(fuel, len(all))]) || err != api.OK {
			t.Errorf("Ways: with fuel %d: %+v, %d, by the steps %v", fuel, r, err, called)
		}
	}
}
