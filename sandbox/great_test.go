package sandbox_test

import (
	"strings"
	"testing"

	"paddock/api"
	"paddock/sandbox"
)

// great is as much as a program may have, but for some bytes of its regions: four compartments full of code, each of which calls the next one, sixteen gates, eight regions.
func great() api.Image {
	m := api.Image{Depth: api.MaxDepth}
	for k := range uint64(api.MaxRegions) {
		m.Regions = append(m.Regions, api.Region{Base: k * 8192, Len: 8192, Data: strings.Repeat("\x07", 3000)})
	}
	for k := range api.MaxComps {
		base := uint64(k) * 8192
		c := api.Comp{Roots: []api.Root{{Reg: 8, Cap: api.Cap{Base: base, End: base + 8192, Cursor: base, Perms: rw}}}}
		c.Code = []api.Inst{{Op: api.RET}}
		for pc := 1; pc < api.MaxCode-2; pc++ {
			c.Code = append(c.Code, api.Inst{Op: api.LB, A: 1 + pc%7, B: 8, Imm: pc})
		}
		c.Code = append(c.Code, api.Inst{Op: api.CALL, Imm: (k + 1) % api.MaxComps}, api.Inst{Op: api.JMP})
		m.Comps = append(m.Comps, c)
	}
	for k := range api.MaxGates {
		m.Gates = append(m.Gates, api.Gate{Comp: k % api.MaxComps, Entry: 1})
	}
	return m
}

// TestGreatProgram: it is loaded, and runs from each of its gates.
func TestGreatProgram(t *testing.T) {
	m := great()
	s := encoded(t, m)
	m.Regions[0].Data += strings.Repeat("\x07", api.MaxImage-len(s))
	s = encoded(t, m)
	p, e, at, r := sandbox.Load(s)
	if len(s) != api.MaxImage || p == nil || e != api.OK || at != 0 || len(r.Table) != api.MaxGates || r.Steps != api.MaxGates*api.MaxCode {
		t.Fatalf("16.1: %d bytes: %v, %d, %d, Reason %d at %d of the gate %d, %d steps", len(s), p != nil, e, at, r.Reason, r.Pc, r.Gate, r.Steps)
	}
	for gate := range m.Gates {
		b := begun{gate: gate, fuel: api.MaxFuel}
		want := stepped(t, m, b)
		if o := want.Outcome; o.End != api.Overflow || o.Gate != (gate+api.MaxDepth)%api.MaxComps || len(want.Touches) != (api.MaxDepth+1)*(api.MaxCode-3) {
			t.Fatalf("the great program does something else: %+v, %d touches", o, len(want.Touches))
		}
		checkRuns(t, "the great program", p, b, want)
	}
	checkWrong(t, "a byte more", s+"\x00", api.ErrCount, 0)
}

// TestGreatRuns: as many steps as there may be, each of which leaves something.
func TestGreatRuns(t *testing.T) {
	code := strings.Repeat("sw r1 r8 0;lb r2 r8 7;out r2;in r1;", 20)
	p := loaded(t, "depth 1;region 0 16 bytes;comp;root r8 0 16 0 rw 0;"+code+"jmp 0;gate g 0 0 ->")
	inputs := make([]uint64, api.MaxFuel)
	for k := range inputs {
		inputs[k] = uint64(k%256) << 56
	}
	for _, w := range ways(p) {
		r, e := w.asked(begun{inputs: inputs, fuel: api.MaxFuel})
		if e != api.OK || r.Outcome.End != api.Spent || len(r.Out) < api.MaxFuel/5 || len(r.Touches) < api.MaxFuel*2/5 {
			t.Fatalf("16.2: %s: %d, %+v, %d put out, %d touched", w.name, e, r.Outcome, len(r.Out), len(r.Touches))
		}
		for k, n := range r.Out {
			if k > 0 && n != uint64((k-1)%256) {
				t.Fatalf("16.2: %s: the output %d is %d", w.name, k, n)
			}
		}
	}
}

// TestManyRuns: a program is loaded once, and run as often as one likes.
func TestManyRuns(t *testing.T) {
	p := loaded(t, adding)
	want := examples()[3].want
	for range 300 {
		checkRuns(t, "one of many", p, begun{fuel: 100}, want)
	}
}
