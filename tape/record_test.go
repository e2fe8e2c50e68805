package tape_test

import (
	"testing"

	"paddock/api"
	"paddock/image"
)

// twoGates is a run that may be, of a program with two gates: one for integers, and one that takes a capability.
func twoGates(t testing.TB) run {
	t.Helper()
	m := parse(t, "depth 1;"+ground+"comp;"+roots+"add r1 r1 r2;halt r1;comp;lb r1 r2 0;ret;gate add 0 0 int int ->;gate peek 1 0 int cap 0 64 0 0 r 0 -> int;gate one 0 1 int ->")
	return run{m: m, args: []uint64{3, 4}, fuel: 9}
}

// wrong is a way in which a run may not be.
type wrong struct {
	name string
	turn func(r *run)
	want api.Errno
}

// wrongs are ways of all kinds, those of one kind in a row, in the order in which they are asked. One of a kind may be laid upon one of another kind.
func wrongs() [][]wrong {
	return [][]wrong{
		{
			{"no depth", func(r *run) { r.m.Depth = 0 }, api.ErrCount},
			{"a region that is none", func(r *run) { r.m.Regions[0].Len = 5 }, api.ErrRegion},
			{"a slot that is none", func(r *run) { r.m.Regions[1].Slots[1].Cursor = 64 }, api.ErrSlot},
			{"a root that is none", func(r *run) { r.m.Comps[0].Roots[0].Reg = 3 }, api.ErrRoot},
			{"an operation that is none", func(r *run) { r.m.Comps[1].Code[1].Op = 99 }, api.ErrOp},
			{"a field that may not be", func(r *run) { r.m.Comps[1].Code[1].A = 1 }, api.ErrField},
			{"a call of nothing", func(r *run) { r.m.Comps[1].Code[1] = api.Inst{Op: api.CALL, Imm: 3} }, api.ErrTarget},
			{"a gate into nothing", func(r *run) { r.m.Gates[2].Comp = 2 }, api.ErrGate},
			{"a type that is none", func(r *run) { r.m.Gates[2].Args = []api.Type{{Hi: 1}} }, api.ErrType},
		},
		{
			{"a load by an integer", func(r *run) { r.m.Comps[1].Code[0].B = 1 }, api.ErrCheck},
			{"a load beyond", func(r *run) { r.m.Comps[1].Code[0].Imm = 64 }, api.ErrCheck},
			{"a code that is left", func(r *run) { r.m.Comps[0].Code[1] = api.Inst{Op: api.MOV} }, api.ErrCheck},
		},
		{
			{"a gate below 0", func(r *run) { r.gate = -1 }, api.ErrEntry},
			{"the least gate", func(r *run) { r.gate = least }, api.ErrEntry},
			{"a gate behind the last one", func(r *run) { r.gate = 3 }, api.ErrEntry},
			{"the greatest gate", func(r *run) { r.gate = most }, api.ErrEntry},
			{"a gate that takes a capability", func(r *run) { r.gate = 1 }, api.ErrEntry},
		},
		{
			{"no arguments", func(r *run) { r.args = nil }, api.ErrArgs},
			{"one too few", func(r *run) { r.args = []uint64{1} }, api.ErrArgs},
			{"one too many", func(r *run) { r.args = []uint64{1, 2, 3} }, api.ErrArgs},
			{"far too many", func(r *run) { r.args = times(99, 5) }, api.ErrArgs},
		},
	}
}

func checkNone(t *testing.T, what string, r run, want api.Errno) {
	t.Helper()
	for _, fuel := range []int{-1, 0, 9} {
		r.fuel = fuel
		if x, e := r.asked(); x != nil || e != want {
			t.Errorf("21.1: %s, fuel %d: %v, %d, want no tape and %d", what, fuel, x != nil, e, want)
		}
	}
}

// TestErrors: each by itself.
func TestErrors(t *testing.T) {
	for _, kind := range wrongs() {
		for _, w := range kind {
			r := twoGates(t)
			w.turn(&r)
			checkNone(t, w.name, r, w.want)
		}
	}
	x := recorded(t, twoGates(t))
	checkOutcome(t, "nothing wrong", x, halted(7, 1))
}

// TestErrorsAtOnce: of two, or of more, that which is asked first is told.
func TestErrorsAtOnce(t *testing.T) {
	kinds := wrongs()
	for k, kind := range kinds {
		for _, w := range kind {
			for _, later := range kinds[k+1:] {
				for _, v := range later {
					r := twoGates(t)
					v.turn(&r)
					w.turn(&r)
					checkNone(t, w.name+" and "+v.name, r, w.want)
				}
			}
		}
	}
	r := twoGates(t)
	for _, kind := range kinds {
		kind[0].turn(&r)
	}
	checkNone(t, "all at once", r, api.ErrCount)
	r = twoGates(t)
	r.m.Regions[0].Len, r.m.Gates[2].Comp = 5, 7
	checkNone(t, "a region and a gate", r, api.ErrRegion)
	checkNone(t, "the empty program", run{}, api.ErrCount)
}

// TestWhichArgumentIsACapability: the first, one in between, the last; and results may be.
func TestWhichArgumentIsACapability(t *testing.T) {
	for k := range 3 {
		r := twoGates(t)
		r.m = image.Copy(r.m)
		r.m.Gates[2].Args = make([]api.Type, 3)
		r.gate, r.args = 2, []uint64{1, 2, 3}
		checkOutcome(t, "integers alone", recorded(t, r), api.Outcome{End: api.Halted, Value: 1, Gate: 2, Pc: 1})
		r.m.Gates[2].Args[k] = api.Type{Cap: true, End: 64, Perms: api.Load}
		if k > 0 {
			checkNone(t, "a capability among the arguments", r, api.ErrEntry)
			continue
		}
		// As the first one it would be halted with: that is refused.
		checkNone(t, "a capability to halt with", r, api.ErrCheck)
	}
	m := parse(t, "depth 1;"+ground+"comp;"+roots+"mov r1 r10;ret;gate g 0 0 -> cap 0 64 7 7 r 0 int")
	checkOutcome(t, "a capability as a result", recorded(t, run{m: m, fuel: 9}), halted(7, 1))
}

// TestEntries: each gate that can be an entry, with its arguments in their registers, its roots, and all else 0.
func TestEntries(t *testing.T) {
	m := parse(t, "depth 1;"+ground+"comp;"+roots+"add r1 r1 r2;halt r1;comp;root r15 1 3 1 su 0;trap 1;ret;gate a 0 0 int int ->;gate b 1 1 ->;gate c 0 1 int int int int int int int ->")
	before := api.FSnap{Regs: [api.Regs]uint64{1: 3, 2: top, 9: 64, 10: 7, 11: 40, 12: 65520}}
	checkAt(t, "the gate 0", recorded(t, run{m: m, args: []uint64{3, top}}), 0, before)
	checkAt(t, "the gate 1", recorded(t, run{m: m, gate: 1}), 0, api.FSnap{Gate: 1, Pc: 1, Regs: [api.Regs]uint64{15: 1}})
	before = api.FSnap{Gate: 2, Pc: 1, Regs: [api.Regs]uint64{0, 1, 2, 3, 4, 5, 6, 7, 0, 64, 7, 40, 65520}}
	checkAt(t, "the gate 2", recorded(t, run{m: m, gate: 2, args: []uint64{1, 2, 3, 4, 5, 6, 7}}), 0, before)
}

// TestFuel: below 0, of 0, of 1, one less than enough, just enough, more.
func TestFuel(t *testing.T) {
	for _, c := range []struct {
		fuel, steps int
		want        api.Outcome
	}{
		{least, 0, spent(0)}, {-7, 0, spent(0)}, {-1, 0, spent(0)}, {0, 0, spent(0)}, {1, 1, spent(1)}, {2, 2, spent(2)}, {3, 3, spent(3)},
		{4, 4, halted(5, 3)}, {5, 4, halted(5, 3)}, {api.MaxFuel, 4, halted(5, 3)}, {api.MaxFuel + 1, 4, halted(5, 3)}, {most, 4, halted(5, 3)},
	} {
		x := taped(t, storing, c.fuel)
		checkLen(t, "storing", x, c.steps)
		checkOutcome(t, "storing", x, c.want)
		checkNoStep(t, "storing", x, c.steps+1)
		checkNoStep(t, "storing", x, -1)
	}
}

// TestMuchFuel: above MaxFuel it is MaxFuel, of a run that would go on, and of one that ends there.
func TestMuchFuel(t *testing.T) {
	for _, fuel := range []int{api.MaxFuel, api.MaxFuel + 1, 2 * api.MaxFuel, most} {
		x := taped(t, "addi r1 r1 1;jmp 0", fuel)
		checkLen(t, "a loop", x, api.MaxFuel)
		checkOutcome(t, "a loop", x, spent(0))
		checkNoStep(t, "a loop", x, api.MaxFuel+1)
	}
	checkLen(t, "a loop, with one step less", taped(t, "addi r1 r1 1;jmp 0", api.MaxFuel-1), api.MaxFuel-1)
	const taking = "li r2 1;in r1;jmp 1"
	for _, fuel := range []int{api.MaxFuel, api.MaxFuel + 1} {
		x := taped(t, taking, fuel, times(api.MaxFuel/2-1, 3)...)
		checkLen(t, "Starved with the last step", x, api.MaxFuel)
		checkOutcome(t, "Starved with the last step", x, starved(1))
		for _, more := range []int{api.MaxFuel / 2, api.MaxFuel, 2*api.MaxFuel + 1} {
			x = taped(t, taking, fuel, times(more, 3)...)
			checkLen(t, "an input more", x, api.MaxFuel)
			checkOutcome(t, "an input more", x, spent(2))
		}
	}
}

// TestInputs: fewer than there are steps, as many, and more.
func TestInputs(t *testing.T) {
	const five = "in r1;in r2;in r3;in r4;in r5;halt r5"
	for fuel := range 7 {
		for count := range 12 {
			var inputs []uint64
			for k := range count {
				inputs = append(inputs, uint64(10+k))
			}
			r := run{m: alone(t, five), inputs: inputs, fuel: fuel}
			x, m := recorded(t, r), modelOf(t, r)
			m.checkEnd(t, "five inputs", x)
			m.checkPlaces(t, "five inputs", x, rising(m.len()), []uint64{0})
			m.checkFinds(t, "five inputs", x, 1, 6)
		}
	}
}
