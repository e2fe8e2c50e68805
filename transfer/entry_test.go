package transfer_test

import (
	"math"
	"testing"

	"paddock/api"
	"paddock/transfer"
)

// noughts is what is known where nothing was handed in.
func noughts(r regs) api.State {
	st := api.State{Live: true}
	for k := range st.Regs {
		st.Regs[k] = integer(0, 0)
	}
	for k, x := range r {
		st.Regs[k] = x
	}
	return st
}

func gateWith(args []api.Type, roots ...api.Root) api.Image {
	return api.Image{Comps: []api.Comp{{}, {Roots: roots}}, Gates: []api.Gate{{}, {Comp: 1, Entry: 77, Args: args}}}
}

func checkEntry(t *testing.T, what string, m api.Image, gate int, want api.State) {
	t.Helper()
	if got := transfer.Entry(m, gate); got != want {
		t.Errorf("10.1: %s: %+v, want %+v", what, got, want)
	}
}

func TestEntry(t *testing.T) {
	c := api.Cap{Base: 8, End: 40, Cursor: 12, Perms: api.Load | api.Seal, Seal: 3}
	args := []api.Type{{}, firstSlot(), secondSlot()}
	of := regs{1: integer(0, top), 2: capability(0, 32, 0, 16, rw, 0), 3: capability(8, 16, 3, 9, 0, 2)}
	checkEntry(t, "nothing", gateWith(nil), 1, noughts(nil))
	checkEntry(t, "a compartment without code", api.Image{Comps: []api.Comp{{}}, Gates: []api.Gate{{}}}, 0, noughts(nil))
	checkEntry(t, "arguments", gateWith(args), 1, noughts(of))
	checkEntry(t, "roots", gateWith(nil, api.Root{Reg: 8, Cap: c}, api.Root{Reg: 15, Cap: api.Cap{End: 5}}), 1, noughts(regs{8: capability(8, 40, 12, 12, api.Load|api.Seal, 3), 15: capability(0, 5, 0, 0, 0, 0)}))
	checkEntry(t, "arguments and a root", gateWith(args, api.Root{Reg: 9, Cap: c}), 1, noughts(with(of, 9, capability(8, 40, 12, 12, api.Load|api.Seal, 3))))
	checkEntry(t, "the gate ahead", gateWith(args, api.Root{Reg: 9, Cap: c}), 0, noughts(nil))
}

func TestEntryOfExample(t *testing.T) {
	m := api.Image{
		Regions: []api.Region{{Len: 32}},
		Comps:   []api.Comp{{Roots: []api.Root{{Reg: 8, Cap: api.Cap{End: 32, Perms: rw}}}}},
		Gates:   []api.Gate{{}},
	}
	checkEntry(t, "the chapter's example", m, 0, noughts(regs{8: root()}))
}

func TestEntryThatIsNone(t *testing.T) {
	m := gateWith([]api.Type{{}})
	for _, gate := range []int{-1, 2, 3, math.MaxInt, math.MinInt} {
		checkEntry(t, "no such gate", m, gate, api.State{})
	}
	for _, comp := range []int{-1, 2, 3, math.MaxInt, math.MinInt} {
		m.Gates[1].Comp = comp
		checkEntry(t, "no such compartment", m, 1, api.State{})
	}
	checkEntry(t, "an empty program", api.Image{}, 0, api.State{})
	checkEntry(t, "no compartments", api.Image{Gates: []api.Gate{{}}}, 0, api.State{})
}

// TestOddRoots: those of programs that are not right. Roots come behind arguments, and one behind another.
func TestOddRoots(t *testing.T) {
	c, d := api.Cap{End: 32, Perms: rw}, api.Cap{Base: 1, End: 9, Cursor: 4}
	for _, reg := range []int{-1, 16, 17, 255, math.MaxInt, math.MinInt} {
		checkEntry(t, "a root that is passed over", gateWith(nil, api.Root{Reg: reg, Cap: d}, api.Root{Reg: 8, Cap: c}, api.Root{Reg: reg, Cap: d}), 1, noughts(regs{8: root()}))
	}
	for reg := range api.Regs {
		checkEntry(t, "a root anywhere", gateWith(nil, api.Root{Reg: reg, Cap: c}), 1, noughts(regs{reg: root()}))
	}
	checkEntry(t, "a root where an argument is", gateWith([]api.Type{{}, {}}, api.Root{Reg: 2, Cap: c}), 1, noughts(regs{1: integer(0, top), 2: root()}))
	checkEntry(t, "two roots in one register", gateWith(nil, api.Root{Reg: 8, Cap: d}, api.Root{Reg: 8, Cap: c}), 1, noughts(regs{8: root()}))
	for _, wrong := range []api.Cap{{Perms: 128}, {Seal: -1}, {Seal: 16}} {
		checkEntry(t, "a root that can't be known", gateWith(nil, api.Root{Reg: 8, Cap: wrong}), 1, noughts(regs{8: nothing()}))
	}
	checkEntry(t, "a root that may not be", gateWith(nil, api.Root{Reg: 8, Cap: api.Cap{Base: top, End: 3, Perms: api.Exec}}), 1, noughts(regs{8: capability(top, 3, 0, 0, api.Exec, 0)}))
}

// TestManyArguments: as far as there are registers.
func TestManyArguments(t *testing.T) {
	for _, n := range []int{7, 14, 15, 16, 17, 40} {
		r := regs{}
		for k := 1; k <= min(n, 15); k++ {
			r[k] = integer(0, top)
		}
		args := make([]api.Type, n)
		checkEntry(t, "many arguments", gateWith(args), 1, noughts(r))
		checkEntry(t, "many arguments, and a root", gateWith(args, api.Root{Reg: 15, Cap: api.Cap{End: 32, Perms: rw}}), 1, noughts(with(r, 15, root())))
		args[n-1] = api.Type{Cap: true, End: 32, Perms: rw}
		if n <= 15 {
			r[n] = root()
		}
		checkEntry(t, "many arguments, the last a capability", gateWith(args), 1, noughts(r))
	}
	wrong := []api.Type{{Cap: true, Lo: 1}, {Cap: true, Seal: -1}, {Cap: true, Perms: 128}, {Base: 4, Lo: 9, Seal: 77}}
	checkEntry(t, "types that can't be", gateWith(wrong), 1, noughts(regs{1: nothing(), 2: nothing(), 3: nothing(), 4: integer(0, top)}))
}
