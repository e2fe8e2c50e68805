package flow_test

import (
	"slices"
	"testing"

	"paddock/api"
	"paddock/capmachine"
	"paddock/flow"
	"paddock/instr"
)

// jumpy is code of one compartment that jumps about: it holds small numbers in r1 to r3, and in r4 to r7 capabilities for its code, mostly.
func (d dice) jumpy() []api.Inst {
	l := make([]api.Inst, 1+d.IntN(14))
	for k := range l {
		switch to := d.IntN(len(l)); d.IntN(12) {
		case 0, 1:
			l[k] = api.Inst{Op: api.LI, A: d.IntN(4), Imm: d.IntN(3)}
		case 2:
			l[k] = api.Inst{Op: api.ADDI, A: d.IntN(4), B: d.IntN(4), Imm: 1}
		case 3, 4, 5:
			l[k] = api.Inst{Op: api.BEQ + api.Op(d.IntN(4)), A: d.IntN(4), B: d.IntN(4), Imm: to}
		case 6:
			l[k] = api.Inst{Op: api.JMP, Imm: to}
		case 7:
			l[k] = api.Inst{Op: api.CPC, A: 4 + d.IntN(4), Imm: to}
		case 8:
			l[k] = api.Inst{Op: api.JC, A: 4 + d.IntN(4)}
		case 9:
			l[k] = api.Inst{Op: api.CALL, Imm: d.IntN(2)}
		case 10:
			l[k] = []api.Inst{{Op: api.RET}, {Op: api.HALT}, {Op: api.TRAP}, {Op: api.IN, A: 1}, {Op: api.GTAG, A: 1}, {Op: api.GIN, A: 4, Imm: 8}}[d.IntN(6)]
		default:
			l[k] = []api.Inst{{Op: api.OUT, A: 1}, {Op: api.MOV, A: 4, B: 5}, {Op: api.CINCI, A: 4, B: 4, Imm: 8 * (d.IntN(5) - 2)}, {Op: api.CTAG, A: 1, B: 4}}[d.IntN(4)]
		}
	}
	return l
}

// prepared lays capabilities for the code in r4 to r7 ahead of all else.
func (d dice) prepared() []api.Inst {
	l := d.jumpy()
	for k := range l {
		if i := &l[k]; i.Op == api.JMP || i.Op == api.CPC || i.Op >= api.BEQ && i.Op <= api.BGE {
			i.Imm += 4
		}
	}
	var ahead []api.Inst
	for reg := 4; reg < 8; reg++ {
		ahead = append(ahead, api.Inst{Op: api.CPC, A: reg, Imm: d.IntN(4 + len(l))})
	}
	return append(ahead, l...)
}

func (d dice) program() api.Image {
	return api.Image{
		Depth: 2,
		Comps: []api.Comp{{Code: d.prepared()}, {Code: d.prepared()}},
		Gates: []api.Gate{{Comp: 0}, {Comp: 1}},
	}
}

// TestStepsOfTheFirstMachine: what is at hand behind a step is in Next of what was, or there is nothing at hand.
func TestStepsOfTheFirstMachine(t *testing.T) {
	steps, fellOff := map[api.Op]int{}, 0
	for seed := range uint64(4000) {
		m := rolled(seed).program()
		x, e := capmachine.New(m, 0, nil, []uint64{1, 2, 3})
		if e != api.OK {
			t.Fatalf("a program of the dice may not be: %d", e)
		}
		for range 60 {
			before := x.Snap()
			if x.Step().End != api.Running {
				break
			}
			now, c := x.Snap(), m.Comps[m.Gates[before.Gate].Comp].Code
			op := c[before.Pc].Op
			steps[op]++
			if op == api.CALL || op == api.RET {
				continue
			}
			if now.Pc == len(c) {
				fellOff++
			} else if !slices.Contains(flow.Next(c, before.Pc), now.Pc) {
				t.Fatalf("8.6: behind %d of %v came %d, want one of %d", before.Pc, c, now.Pc, flow.Next(c, before.Pc))
			}
		}
	}
	for _, op := range []api.Op{api.LI, api.JMP, api.BEQ, api.BNE, api.BLT, api.BGE, api.CPC, api.JC, api.CALL, api.RET, api.IN, api.OUT, api.GIN} {
		if steps[op] < 20 {
			t.Errorf("8.6: %s went on %d times: the programs are too narrow", instr.Name(op), steps[op])
		}
	}
	if fellOff < 20 {
		t.Errorf("8.6: %d runs went on behind the code: the programs are too narrow", fellOff)
	}
}
