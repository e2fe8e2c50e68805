package bound_test

import (
	"reflect"
	"slices"
	"sync"
	"testing"

	"paddock/api"
	"paddock/bound"
	"paddock/image"
)

// grown is a list with three elements behind it, and room tells whether these stand there still.
func grown[T any](l []T, mark T, room *[]func() bool) []T {
	full := append(slices.Clone(l), mark, mark, mark)
	*room = append(*room, func() bool {
		return !slices.ContainsFunc(full[len(l):], func(x T) bool { return !reflect.DeepEqual(x, mark) })
	})
	return full[:len(l)]
}

// roomy is the same program with lists that have room behind them, in which something lies.
func roomy(m api.Image, room *[]func() bool) api.Image {
	m = image.Copy(m)
	m.Regions, m.Comps, m.Gates = grown(m.Regions, api.Region{Base: 77}, room), grown(m.Comps, api.Comp{}, room), grown(m.Gates, api.Gate{Comp: 77}, room)
	for k := range m.Regions {
		m.Regions[k].Slots = grown(m.Regions[k].Slots, api.Slot{Cursor: 77}, room)
	}
	for k := range m.Comps {
		m.Comps[k].Roots = grown(m.Comps[k].Roots, api.Root{Reg: 77}, room)
		m.Comps[k].Code = grown(m.Comps[k].Code, api.Inst{Op: api.JMP}, room)
	}
	for k := range m.Gates {
		m.Gates[k].Args = grown(m.Gates[k].Args, api.Type{Seal: 77}, room)
		m.Gates[k].Results = grown(m.Gates[k].Results, api.Type{Seal: 77}, room)
	}
	return m
}

// programs are some of all kinds: right and wrong, with rounds and without.
func programs(t *testing.T) []api.Image {
	t.Helper()
	l := []api.Image{
		{}, program(t, "ret"), program(t, "li r1 5"), program(t, "call 0;ret"), program(t, "call 1;call 1;ret", "in r1;ret"), program(t, "jmp 0"),
		program(t, "call 1;ret", "call 2;ret", "call 0;ret"), withDepth(program(t, "ret"), 17),
		parse(t, "depth 1;region 0 16 bytes #07;region 16 32 slots;slot cap 0 16 0 15 rw 0 at 0;slot cap 0 16 0 15 rw 0 at 9;comp;root r8 16 48 16 cd 0;lc r1 r8 0;call 1;halt r0;comp;in r2;ret;gate a 0 0 int ->;gate b 1 0 cap 0 16 0 15 rw 0 -> int int"),
	}
	for _, steps := range []uint64{1000, api.MaxBound, api.MaxBound + 1} {
		m, _ := lasting(t, steps, in)
		l = append(l, m)
	}
	for seed := range uint64(200) {
		l = append(l, rolled(70000+seed).program())
	}
	return l
}

// TestHandedInStays: programs, with all their lists, and what stands behind these.
func TestHandedInStays(t *testing.T) {
	for n, m := range programs(t) {
		var room []func() bool
		x := roomy(m, &room)
		was := image.Copy(x)
		for gate := -1; gate <= len(x.Gates); gate++ {
			bound.Gate(x, gate)
			bound.Deep(x, gate)
		}
		if !reflect.DeepEqual(image.Copy(x), was) {
			t.Errorf("the program %d has changed", n)
		}
		if slices.ContainsFunc(room, func(stays func() bool) bool { return !stays() }) {
			t.Errorf("the program %d: what stands behind a list has changed", n)
		}
	}
}

// TestRoomBehind: what stands behind a list is not of the program.
func TestRoomBehind(t *testing.T) {
	for _, m := range programs(t) {
		var room []func() bool
		x := roomy(m, &room)
		for gate := range m.Gates {
			a, b := bound.Gate(m, gate), bound.Gate(x, gate)
			n, known := bound.Deep(m, gate)
			k, isKnown := bound.Deep(x, gate)
			if a != b || n != k || known != isKnown {
				t.Errorf("with room behind its lists: %+v, %d, %v, want %+v, %d, %v", b, k, isKnown, a, n, known)
			}
		}
	}
}

// TestWoven: compartments may share their code with one another, and gates their types.
func TestWoven(t *testing.T) {
	code := []api.Inst{in, call(1), ret, in, in, ret}
	types := []api.Type{{}, {}, {}}
	m := api.Image{Depth: 1, Comps: []api.Comp{{Code: code[:3]}, {Code: code[3:]}, {Code: code}, {Code: code[:2]}}}
	m.Gates = []api.Gate{{Comp: 0, Args: types, Results: types[1:]}, {Comp: 1, Args: types[:1], Results: types}, {Comp: 2}, {Comp: 3}}
	checkAll(t, "woven", m, knows(6, 1, 3), knows(3, 0, 2), knows(6, 1, 3), knows(6, 1, 3))
}

// asked is what is told of a gate, by both calls.
type asked struct {
	cost  api.Cost
	deep  int
	known bool
}

func ask(m api.Image, gate int) asked {
	a := asked{cost: bound.Gate(m, gate)}
	a.deep, a.known = bound.Deep(m, gate)
	return a
}

// TestAskedAgain: the same again, and of other programs and gates between, answers the same; and what was handed in and was changed afterwards is looked at anew.
func TestAskedAgain(t *testing.T) {
	l := programs(t)
	var first []asked
	for _, m := range l {
		for gate := range m.Gates {
			first = append(first, ask(m, gate))
		}
	}
	k := len(first)
	for n := len(l) - 1; n >= 0; n-- {
		for gate := len(l[n].Gates) - 1; gate >= 0; gate-- {
			k--
			if got := ask(l[n], gate); got != first[k] {
				t.Errorf("the program %d, the gate %d, asked again: %+v, want %+v", n, gate, got, first[k])
			}
		}
	}
	m := program(t, "call 1;ret", "in r1;ret")
	check(t, "ahead of a change", m, 0, cost(4, 1, 1), 1)
	m.Comps[1].Code[0] = idle
	check(t, "behind a change", m, 0, cost(4, 1, 0), 1)
	m.Comps[1].Code[0] = call(0)
	check(t, "behind another change", m, 0, unknown, endless)
	m.Comps[1].Code[0] = in
	check(t, "changed back", m, 0, cost(4, 1, 1), 1)
}

// TestOrderOfGates: what is told of a gate does not hang on the numbers of gates and compartments.
func TestOrderOfGates(t *testing.T) {
	for seed := range uint64(300) {
		d := rolled(80000 + seed)
		m := d.program()
		gates, comps := d.Perm(len(m.Gates)), d.Perm(len(m.Comps))
		x := image.Copy(m)
		for k, g := range m.Gates {
			x.Gates[gates[k]] = g
			x.Gates[gates[k]].Comp = comps[g.Comp]
		}
		for k, c := range m.Comps {
			x.Comps[comps[k]] = api.Comp{Roots: c.Roots, Code: slices.Clone(c.Code)}
			for pc, i := range c.Code {
				if i.Op == api.CALL {
					x.Comps[comps[k]].Code[pc].Imm = gates[i.Imm]
				}
			}
		}
		for gate := range m.Gates {
			if a, b := ask(m, gate), ask(x, gates[gate]); a != b {
				t.Errorf("the program %d, the gate %d: %+v, in another order %+v", seed, gate, a, b)
			}
		}
	}
}

// TestAtOnce: it answers the same, whoever else asks at the same time.
func TestAtOnce(t *testing.T) {
	l := programs(t)
	var wants [][]asked
	for _, m := range l {
		var w []asked
		for gate := range m.Gates {
			w = append(w, ask(m, gate))
		}
		wants = append(wants, w)
	}
	var all sync.WaitGroup
	for n := range 8 {
		all.Go(func() {
			for i := range l {
				at := (i*(2*n+1) + n) % len(l)
				for gate, want := range wants[at] {
					if got := ask(l[at], gate); got != want {
						t.Errorf("the program %d, the gate %d, at once: %+v, want %+v", at, gate, got, want)
					}
				}
			}
		})
	}
	all.Wait()
}
