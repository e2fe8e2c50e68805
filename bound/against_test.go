package bound_test

import (
	"fmt"
	"slices"
	"testing"

	"paddock/api"
	"paddock/bound"
	"paddock/image"
)

// seen counts of what kinds the gates of some programs are.
type seen struct {
	known, rounds, callsRound, calledUnknown, called, inputs int
}

func (s *seen) count(m api.Image, gate int, c api.Cost) {
	switch {
	case c.Known:
		s.known++
		s.called += min(int(c.Calls), 1)
		s.inputs += min(int(c.Inputs), 1)
	case callsRound(m, gate):
		s.callsRound++
	case hasRound(m, gate):
		s.rounds++
	default:
		s.calledUnknown++
	}
}

// TestAgainstPlainReading: programs of dice, all of their gates.
func TestAgainstPlainReading(t *testing.T) {
	t.Parallel()
	var all seen
	for seed := range uint64(6000) {
		m := rolled(seed).program()
		if e := image.Right(m); e != api.OK {
			t.Fatalf("the program %d: %d\n%s", seed, e, shown(m))
		}
		for gate := -1; gate <= len(m.Gates); gate++ {
			want := costBy(m, gate)
			check(t, fmt.Sprintf("the program %d", seed), m, gate, want, deepBy(m, gate))
			if gate >= 0 && gate < len(m.Gates) {
				all.count(m, gate, want)
			}
		}
		if t.Failed() {
			t.Fatalf("the program %d:\n%s", seed, shown(m))
		}
	}
	if all.known < 4000 || all.rounds < 500 || all.callsRound < 500 || all.calledUnknown < 100 || all.called < 500 || all.inputs < 1000 {
		t.Errorf("%+v: the dice are too narrow", all)
	}
}

// TestWhereGateKnows: Deep knows, and tells its Calls.
func TestWhereGateKnows(t *testing.T) {
	for seed := range uint64(3000) {
		d := rolled(10000 + seed)
		for _, m := range []api.Image{d.program(), d.steered()} {
			for gate := range m.Gates {
				c := bound.Gate(m, gate)
				n, known := bound.Deep(m, gate)
				if c.Known && (!known || uint64(n) != c.Calls) {
					t.Errorf("18.3: %+v, but %d, %v of the gate %d of\n%s", c, n, known, gate, shown(m))
				}
				if c.Known && (c.Steps == 0 || c.Inputs > c.Steps || c.Calls >= uint64(len(m.Gates))) || !c.Known && c != unknown {
					t.Errorf("18.1: %+v of the gate %d of\n%s", c, gate, shown(m))
				}
			}
		}
	}
}

// TestWhatMakesNoDifference: instructions that nobody comes to, registers, roots, regions, types and the depth.
func TestWhatMakesNoDifference(t *testing.T) {
	changed := 0
	for seed := range uint64(1500) {
		m := rolled(20000 + seed).program()
		x := image.Copy(m)
		x.Depth, x.Regions = 16, nil
		for k := range x.Gates {
			x.Gates[k].Args, x.Gates[k].Results = x.Gates[k].Results, nil
		}
		for k := range x.Comps {
			c := &x.Comps[k]
			c.Roots = nil
			for pc := range c.Code {
				c.Code[pc].A = 0
			}
			// A JC comes to all.
			if last := c.Code[len(c.Code)-1].Op; isEnd(last) && !hasJC(c.Code) {
				c.Code = append(c.Code, call(0), api.Inst{Op: api.JMP}, in)
				changed++
			}
		}
		if e := image.Right(x); e != api.OK {
			t.Fatalf("the program %d, changed: %d\n%s", seed, e, shown(m))
		}
		for gate := range m.Gates {
			check(t, fmt.Sprintf("the program %d, changed where it does not matter", seed), x, gate, costBy(m, gate), deepBy(m, gate))
		}
	}
	if changed < 200 {
		t.Errorf("%d codes with something behind them: the dice are too narrow", changed)
	}
}

func hasJC(code []api.Inst) bool {
	return slices.ContainsFunc(code, func(i api.Inst) bool { return i.Op == api.JC })
}
