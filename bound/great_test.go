package bound_test

import (
	"fmt"
	"slices"
	"testing"

	"paddock/api"
	"paddock/image"
)

var (
	ret  = api.Inst{Op: api.RET}
	idle = api.Inst{Op: api.MOV, A: 1, B: 1}
	in   = api.Inst{Op: api.IN, A: 1}
)

func call(gate int) api.Inst { return api.Inst{Op: api.CALL, Imm: gate} }

// laid is a program of rows of instructions, with a gate at the beginning of each. They lie in the compartments in turn.
func laid(rows ...[]api.Inst) api.Image {
	m := api.Image{Depth: 1, Comps: make([]api.Comp, min(len(rows), api.MaxComps))}
	for k, r := range rows {
		c := &m.Comps[k%api.MaxComps]
		m.Gates = append(m.Gates, api.Gate{Comp: k % api.MaxComps, Entry: len(c.Code)})
		c.Code = append(c.Code, r...)
	}
	return m
}

// lasting is a program whose gate 0 takes just so many steps: each gate calls the next one sixteen times, and does some steps of its own, which are alike, ahead of a RET. It tells how many of its steps are such.
func lasting(t *testing.T, steps uint64, own api.Inst) (api.Image, uint64) {
	t.Helper()
	var rows [][]api.Inst
	like, times := uint64(0), uint64(1)
	add := func(calls int, owns uint64) {
		row := slices.Repeat([]api.Inst{call(len(rows) + 1)}, calls)
		row = append(row, slices.Repeat([]api.Inst{own}, int(owns))...)
		rows = append(rows, append(row, ret))
		like += owns * times
		times *= 16
	}
	for steps > 40 {
		called := (steps-1)/16 - 1
		add(16, steps-1-16*(1+called))
		steps = called
	}
	add(0, steps-1)
	m := laid(rows...)
	if e := image.Right(m); e != api.OK {
		t.Fatalf("%d: %d gates", e, len(rows))
	}
	return m, like
}

// TestJustMaxBound: a sum that is just MaxBound, and one more, and one less.
func TestJustMaxBound(t *testing.T) {
	for _, steps := range []uint64{1, 2, 40, 41, 1000, api.MaxFuel, 1 << 32, 1<<32 + 1, api.MaxBound - 17, api.MaxBound - 16, api.MaxBound - 1, api.MaxBound} {
		m, _ := lasting(t, steps, idle)
		last := len(m.Gates) - 1
		check(t, fmt.Sprintf("%d steps", steps), m, 0, cost(steps, uint64(last), 0), last)
		m, inputs := lasting(t, steps, in)
		check(t, fmt.Sprintf("%d steps, with inputs", steps), m, 0, cost(steps, uint64(last), inputs), last)
	}
	for _, steps := range []uint64{api.MaxBound + 1, api.MaxBound + 2, api.MaxBound + 17, 2 * api.MaxBound, 16*(api.MaxBound+1) + 1} {
		m, _ := lasting(t, steps, in)
		last := len(m.Gates) - 1
		check(t, fmt.Sprintf("%d steps, with inputs", steps), m, 0, unknown, last)
		m, _ = lasting(t, steps, idle)
		check(t, fmt.Sprintf("%d steps", steps), m, 0, unknown, last)
		check(t, fmt.Sprintf("%d steps, the second gate", steps), m, 1, cost((steps-1)/16-1, uint64(last-1), 0), last-1)
	}
	m, _ := lasting(t, 16*(api.MaxBound+2)+1, idle)
	check(t, "the second gate has too many", m, 1, unknown, len(m.Gates)-2)
	check(t, "the second gate has too many", m, 0, unknown, len(m.Gates)-1)
}

// TestJustMaxBoundAtTheEnds: the step more is that of a last instruction, of the step behind the code, or of another way.
func TestJustMaxBoundAtTheEnds(t *testing.T) {
	whole, _ := lasting(t, api.MaxBound-2, idle)
	with := func(row ...api.Inst) api.Image {
		m := image.Copy(whole)
		m.Gates = append(m.Gates, api.Gate{Comp: 3, Entry: len(m.Comps[3].Code)})
		m.Comps[3].Code = append(m.Comps[3].Code, row...)
		return m
	}
	last, deep := len(whole.Gates), len(whole.Gates)
	beq := func(to int) api.Inst { return api.Inst{Op: api.BEQ, Imm: len(whole.Comps[3].Code) + to} }
	most := cost(api.MaxBound, uint64(deep), 0)
	for _, x := range []struct {
		what string
		row  []api.Inst
		want api.Cost
	}{
		{"a last one", []api.Inst{call(0), ret}, most},
		{"two last ones", []api.Inst{call(0), idle, ret}, unknown},
		{"behind the code", []api.Inst{call(0)}, most},
		{"behind the code, one more", []api.Inst{call(0), idle}, unknown},
		{"a first one", []api.Inst{idle, call(0), ret}, unknown},
		{"by a branch, ahead of which another way ends", []api.Inst{beq(2), ret, call(0), ret}, unknown},
		{"of a sixteenth of it", []api.Inst{call(1), beq(2), ret}, cost((api.MaxBound-3)/16+2, uint64(deep)-1, 0)},
		{"twice", []api.Inst{call(0), call(0), ret}, unknown},
		{"of three sixteenths", []api.Inst{call(1), call(1), call(1), ret}, cost(3*((api.MaxBound-3)/16)+1, uint64(deep)-1, 0)},
	} {
		m := with(x.row...)
		d := deep
		if x.want.Known {
			d = int(x.want.Calls)
		}
		check(t, "just MaxBound, "+x.what, m, last, x.want, d)
	}
}

// TestFarAboveMaxBound: sums that would go round many times over.
func TestFarAboveMaxBound(t *testing.T) {
	var rows [][]api.Inst
	for k := range api.MaxGates - 1 {
		rows = append(rows, append(slices.Repeat([]api.Inst{call(k + 1)}, 99), ret))
	}
	rows = append(rows, append(slices.Repeat([]api.Inst{in}, 99), ret))
	m := laid(rows...)
	steps, inputs := uint64(100), uint64(99)
	for gate := api.MaxGates - 1; gate >= 0; gate-- {
		want := unknown
		if steps <= api.MaxBound {
			want = cost(steps, uint64(15-gate), inputs)
			steps, inputs = 99*(1+steps)+1, 99*inputs
		}
		check(t, "ninety-nine calls each", m, gate, want, 15-gate)
	}
	// Of a gate that calls one of which too much would be told nothing is known, however short it is.
	m.Comps[0].Code[1] = ret
	check(t, "a short one", m, 0, unknown, 15)
}

// TestLongCode: as long as may be, in each compartment, in one way.
func TestLongCode(t *testing.T) {
	for _, x := range []struct {
		last  api.Inst
		extra uint64
	}{{ret, 0}, {idle, 1}, {in, 1}, {api.Inst{Op: api.BEQ, Imm: 0}, 0}} {
		row := append(slices.Repeat([]api.Inst{in}, api.MaxCode-1), x.last)
		m := laid(row, row, row, row)
		want := cost(api.MaxCode+x.extra, 0, api.MaxCode-1)
		switch x.last.Op {
		case api.IN:
			want.Inputs++
		case api.BEQ:
			want = unknown
		}
		for gate := range 4 {
			check(t, "long code", m, gate, want, 0)
		}
	}
}

// TestManyWays: where each instruction may go to two, there are more ways than could be gone one by one.
func TestManyWays(t *testing.T) {
	branches := func(to func(pc int) int, last api.Inst) []api.Inst {
		var l []api.Inst
		for pc := range api.MaxCode - 1 {
			l = append(l, api.Inst{Op: api.BEQ + api.Op(pc%4), Imm: min(to(pc), api.MaxCode-1)})
		}
		return append(l, last)
	}
	for _, x := range []struct {
		what string
		to   func(pc int) int
	}{
		{"to the one behind", func(pc int) int { return pc + 1 }},
		{"over one", func(pc int) int { return pc + 2 }},
		{"over seven", func(pc int) int { return pc + 8 }},
		{"half way on", func(pc int) int { return (pc+api.MaxCode)/2 + 1 }},
		{"to the last", func(pc int) int { return api.MaxCode - 1 }},
	} {
		check(t, "many ways, "+x.what, laid(branches(x.to, ret)), 0, cost(api.MaxCode, 0, 0), 0)
		check(t, "many ways, in, "+x.what, laid(branches(x.to, in)), 0, cost(api.MaxCode+1, 0, 1), 0)
		round := branches(x.to, api.Inst{Op: api.JMP, Imm: api.MaxCode / 2})
		check(t, "many ways, and a round, "+x.what, laid(round), 0, unknown, 0)
		round[api.MaxCode-1] = api.Inst{Op: api.JC}
		check(t, "many ways, and anywhere, "+x.what, laid(round), 0, unknown, 0)
		round[api.MaxCode-1] = call(0)
		check(t, "many ways, and again, "+x.what, laid(round), 0, unknown, endless)
	}
	// All may go anywhere.
	check(t, "anywhere", laid(slices.Repeat([]api.Inst{{Op: api.JC}}, api.MaxCode)), 0, unknown, 0)
}

// TestBackwards: the code stands the other way round, and jumps back again and again.
func TestBackwards(t *testing.T) {
	const pairs = 199
	code := []api.Inst{{Op: api.JMP, Imm: 2*pairs - 1}}
	for k := range pairs {
		to := max(2*k-1, 0)
		op := api.Inst{Op: api.JMP, Imm: to}
		if k == 0 {
			op = ret
		}
		code = append(code, in, op)
	}
	check(t, "backwards", laid(code), 0, cost(1+2*pairs, 0, pairs), 0)
}

// TestManyWaysAndCalls: sixteen gates, of which each calls all behind it, on many ways.
func TestManyWaysAndCalls(t *testing.T) {
	var rows [][]api.Inst
	for k := range api.MaxGates {
		begin := 0
		for n := k % api.MaxComps; n < k; n += api.MaxComps {
			begin += len(rows[n])
		}
		var row []api.Inst
		for next := k + 1; next < api.MaxGates; next++ {
			// Over the call, or to it.
			row = append(row, api.Inst{Op: api.BNE, Imm: begin + len(row) + 2}, call(next))
		}
		rows = append(rows, append(row, in, ret))
	}
	m := laid(rows...)
	steps, inputs := [api.MaxGates]uint64{}, [api.MaxGates]uint64{}
	for k := api.MaxGates - 1; k >= 0; k-- {
		steps[k], inputs[k] = 2, 1
		for next := k + 1; next < api.MaxGates; next++ {
			steps[k] += 2 + steps[next]
			inputs[k] += inputs[next]
		}
		check(t, "calls of all behind", m, k, cost(steps[k], uint64(15-k), inputs[k]), 15-k)
	}
	// The last one calls the first: all are in rounds of calls, and none is asked of more than once.
	c := m.Comps[3].Code
	c[len(c)-1] = call(0)
	for k := range api.MaxGates {
		check(t, "calls of all", m, k, unknown, endless)
	}
}
