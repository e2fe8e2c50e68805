package bound_test

import (
	"math"
	"testing"

	"paddock/api"
	"paddock/image"
)

// TestNoSuchGate: below 0, and behind the last.
func TestNoSuchGate(t *testing.T) {
	one, two := program(t, "ret"), program(t, "call 1;ret", "in r1;ret")
	for _, gate := range []int{-1, -2, -16, 16, 17, 255, 256, 1 << 16, 1 << 32, 1 << 62, math.MaxInt, math.MinInt, math.MinInt + 1} {
		check(t, "no such gate", one, gate, unknown, endless)
		check(t, "no such gate", two, gate, unknown, endless)
	}
	check(t, "behind the last", one, 1, unknown, endless)
	check(t, "behind the last", two, 2, unknown, endless)
	check(t, "the last", two, 1, cost(2, 0, 1), 0)

	codes := []string{"ret"}
	var gates []string
	for range api.MaxGates {
		gates = append(gates, "0 0")
	}
	m := gated(t, codes, gates...)
	check(t, "the last that may be", m, 15, cost(1, 0, 0), 0)
	check(t, "behind the last that may be", m, 16, unknown, endless)
}

// TestNotRight: of a program that is not right nothing is told, whichever of its parts is wrong, and wherever the gate leads.
func TestNotRight(t *testing.T) {
	for _, x := range []struct {
		what  string
		spoil func(m *api.Image)
		err   api.Errno
	}{
		{"depth 0", func(m *api.Image) { m.Depth = 0 }, api.ErrCount},
		{"depth 17", func(m *api.Image) { m.Depth = 17 }, api.ErrCount},
		{"no compartment", func(m *api.Image) { m.Comps = nil }, api.ErrCount},
		{"five compartments", func(m *api.Image) { m.Comps = append(m.Comps, m.Comps[0], m.Comps[0], m.Comps[0]) }, api.ErrCount},
		{"no gate", func(m *api.Image) { m.Gates = nil }, api.ErrCount},
		{"seventeen gates", func(m *api.Image) {
			for len(m.Gates) < 17 {
				m.Gates = append(m.Gates, m.Gates[0])
			}
		}, api.ErrCount},
		{"a region", func(m *api.Image) { m.Regions = []api.Region{{Base: 1, Len: 16}} }, api.ErrRegion},
		{"a slot", func(m *api.Image) { m.Regions = []api.Region{{Len: 16, Slots: make([]api.Slot, 1)}} }, api.ErrSlot},
		{"a root", func(m *api.Image) { m.Comps[0].Roots = []api.Root{{Reg: 7}} }, api.ErrRoot},
		{"a root elsewhere", func(m *api.Image) { m.Comps[1].Roots = []api.Root{{Reg: 16}} }, api.ErrRoot},
		{"no code", func(m *api.Image) { m.Comps[0].Code = nil }, api.ErrCount},
		{"no code elsewhere", func(m *api.Image) { m.Comps[1].Code = nil }, api.ErrCount},
		{"code that is too long", func(m *api.Image) {
			for len(m.Comps[1].Code) <= api.MaxCode {
				m.Comps[1].Code = append(m.Comps[1].Code, api.Inst{Op: api.RET})
			}
		}, api.ErrCount},
		{"no operation", func(m *api.Image) { m.Comps[0].Code[0] = api.Inst{} }, api.ErrOp},
		{"no operation, not come to", func(m *api.Image) { m.Comps[1].Code = append(m.Comps[1].Code, api.Inst{Op: 255}) }, api.ErrOp},
		{"a field", func(m *api.Image) { m.Comps[0].Code[0] = api.Inst{Op: api.LI, A: 16} }, api.ErrField},
		{"a field, not come to", func(m *api.Image) { m.Comps[1].Code = append(m.Comps[1].Code, api.Inst{Op: api.RET, B: 1}) }, api.ErrField},
		{"a jump behind the code", func(m *api.Image) { m.Comps[0].Code[0] = api.Inst{Op: api.JMP, Imm: 3} }, api.ErrTarget},
		{"a branch behind the code, not come to", func(m *api.Image) { m.Comps[1].Code = append(m.Comps[1].Code, api.Inst{Op: api.BEQ, Imm: 3}) }, api.ErrTarget},
		{"a jump below 0", func(m *api.Image) { m.Comps[0].Code[0] = api.Inst{Op: api.JMP, Imm: -1} }, api.ErrField},
		{"a call of no gate", func(m *api.Image) { m.Comps[0].Code[0].Imm = 2 }, api.ErrTarget},
		{"a call of a gate below 0", func(m *api.Image) { m.Comps[0].Code[0].Imm = -1 }, api.ErrField},
		{"a gate's compartment", func(m *api.Image) { m.Gates[0].Comp = 2 }, api.ErrGate},
		{"another gate's compartment", func(m *api.Image) { m.Gates[1].Comp = -1 }, api.ErrGate},
		{"a gate's entry", func(m *api.Image) { m.Gates[0].Entry = 3 }, api.ErrGate},
		{"another gate's entry", func(m *api.Image) { m.Gates[1].Entry = -1 }, api.ErrGate},
		{"arguments", func(m *api.Image) { m.Gates[1].Args = make([]api.Type, 8) }, api.ErrGate},
		{"a type", func(m *api.Image) { m.Gates[1].Results = []api.Type{{Hi: 5}} }, api.ErrType},
	} {
		m := program(t, "call 1;out r1;ret", "in r1;ret")
		check(t, x.what+", ahead of it", m, 0, cost(5, 1, 1), 1)
		x.spoil(&m)
		if e := image.Right(m); e != x.err {
			t.Fatalf("%s: %d, want %d", x.what, e, x.err)
		}
		for gate := -1; gate <= 17; gate++ {
			check(t, x.what, m, gate, unknown, endless)
		}
	}
	for gate := -1; gate <= 1; gate++ {
		check(t, "nothing at all", api.Image{}, gate, unknown, endless)
	}
}

// TestGateThatCanBeNoEntry: whether a run can begin at a gate is not asked.
func TestGateThatCanBeNoEntry(t *testing.T) {
	m := parse(t, "depth 1;comp;in r2;call 1;ret;comp;lb r1 r1 0;ret;gate a 0 0 cap 0 16 0 15 r 0 ->;gate b 1 0 cap 0 16 0 15 r 0 -> int")
	checkAll(t, "arguments of capabilities", m, knows(5, 1, 1), knows(2, 0, 0))
}
