package tape_test

import (
	"slices"
	"testing"

	"paddock/api"
	"paddock/capmachine"
	"paddock/erase"
)

// far goes on as long as there is fuel: each round takes a number, puts it out, keeps it and the count of rounds, by a call.
const far = "depth 1;" + ground + "comp;" + roots + "in r1;addi r5 r5 1;sw r5 r8 8;sc r10 r9 0;call keep;out r1;jmp 0;" +
	"comp;root r8 0 64 15 rw 0;sb r1 r8 1;addi r1 r1 1;ret;gate main 0 0 ->;gate keep 1 0 int -> int"

// farRound is how many steps a round of far has.
const farRound = 10

// looks are places that are asked at, rising: at both ends, and at each multiple of 1024 and beside it, among which are all places at which a machine is kept.
func looks(steps int) []int {
	l := []int{0, 1, 2, 3, steps - 1, steps}
	for k := 1024; k < steps; k += 1024 {
		l = append(l, k-1, k, k+1)
	}
	slices.Sort(l)
	return slices.Compact(l)
}

// seen is what the first machine tells at a place.
type seen struct {
	place int
	snap  api.FSnap
	bytes [3]byte // at 8, 9 and 16
}

// farSeen is what it tells at such places, rising.
func farSeen(t testing.TB, r run, l []int) []seen {
	t.Helper()
	y, e := capmachine.New(r.m, r.gate, r.args, r.inputs)
	if e != api.OK {
		t.Fatalf("7.1: New: %d", e)
	}
	var all []seen
	place := 0
	for _, p := range l {
		for ; place < p; place++ {
			y.Step()
		}
		s := seen{place: p, snap: erase.Snap(y.Snap())}
		for k, addr := range []uint64{8, 9, 16} {
			n, _ := y.Memory().Load(addr, 1)
			s.bytes[k] = byte(n)
		}
		all = append(all, s)
	}
	return all
}

// TestLongTapes: beside all places at which a machine may be kept, in rising order, in falling order and mixed; of a run that goes on until no fuel is left, and of ones that are over beside such a place.
func TestLongTapes(t *testing.T) {
	t.Parallel()
	m := parse(t, far)
	var inputs []uint64
	for k := range uint64(api.MaxFuel) {
		inputs = append(inputs, k*k)
	}
	for _, c := range []struct{ inputs, fuel, steps int }{
		{len(inputs), api.MaxFuel, api.MaxFuel}, {409, api.MaxFuel, 4091}, {len(inputs), 4095, 4095}, {len(inputs), 4096, 4096}, {len(inputs), 4097, 4097}, {819, 8192, 8191}, {len(inputs), 12288, 12288}, {1638, 99999, 16381},
	} {
		r := run{m: m, inputs: inputs[:c.inputs], fuel: c.fuel}
		x := recorded(t, r)
		checkLen(t, "far", x, c.steps)
		l := looks(c.steps)
		all := farSeen(t, r, l)
		for k, place := range rolled(uint64(c.steps)).Perm(len(all)) {
			for _, s := range []seen{all[k], all[len(all)-1-k], all[place]} {
				checkAt(t, "far", x, s.place, s.snap)
				checkByte(t, "far", x, s.place, 8, s.bytes[0])
				checkByte(t, "far", x, s.place, 9, s.bytes[1])
				checkByte(t, "far", x, s.place, 16, s.bytes[2])
			}
		}
		checkNoStep(t, "far", x, c.steps+1)
	}
}

// TestEndsBesideKept: runs that end of themselves, Starved and Spent behind as many steps as lie between two machines that may be kept, and a few less and more.
func TestEndsBesideKept(t *testing.T) {
	t.Parallel()
	for _, near := range []int{1024, 4096, 8192} {
		for steps := near - 2; steps <= near+2; steps++ {
			// One step or two, two for each round, and two more.
			lead, halt := "in r2;", 4
			if steps%2 == 0 {
				lead, halt = "out r1;in r2;", 5
			}
			rounds := uint64(steps-halt+1) / 2
			r := run{m: alone(t, lead+"next: addi r1 r1 1;bne r1 r2 next;sw r1 r8 0;halt r1"), inputs: []uint64{rounds}, fuel: api.MaxFuel}
			x := recorded(t, r)
			checkLen(t, "beside", x, steps)
			checkOutcome(t, "beside", x, halted(rounds, halt))
			want := api.FSnap{Pc: halt, Regs: [api.Regs]uint64{1: rounds, 2: rounds, 9: 64, 10: 7, 11: 40, 12: 65520}}
			checkAt(t, "beside", x, steps-1, want)
			checkAt(t, "beside", x, steps, want)
			checkByte(t, "beside", x, steps, 0, byte(rounds))
			checkByte(t, "beside", x, steps-2, 0, 1)
			checkStores(t, "beside", x, 0, steps-1)
			checkNoStep(t, "beside", x, steps+1)
			checkBeside(t, run{m: r.m, inputs: []uint64{top}, fuel: steps}, steps)
			checkBeside(t, run{m: alone(t, "in r1;jmp 0"), inputs: times((steps-1)/2, 3), fuel: api.MaxFuel}, (steps-1)/2*2+1)
		}
	}
}

// checkBeside holds the end of a run against the first machine.
func checkBeside(t *testing.T, r run, steps int) {
	t.Helper()
	x := recorded(t, r)
	y, e := capmachine.New(r.m, r.gate, r.args, r.inputs)
	if e != api.OK {
		t.Fatalf("7.1: New: %d", e)
	}
	checkLen(t, "beside", x, steps)
	checkOutcome(t, "beside", x, y.Run(r.fuel))
	checkAt(t, "beside", x, steps, erase.Snap(y.Snap()))
	checkNoStep(t, "beside", x, steps+1)
}

// TestFarStoresAndFinds: of a run of as many steps as can be.
func TestFarStoresAndFinds(t *testing.T) {
	t.Parallel()
	x := recorded(t, run{m: parse(t, far), inputs: times(api.MaxFuel, 3), fuel: api.MaxFuel})
	var words, caps, bytes []int
	for step := 3; step <= api.MaxFuel; step += farRound {
		words, caps, bytes = append(words, step), append(caps, step+1), append(bytes, step+3)
	}
	checkStores(t, "far", x, 8, words...)
	checkStores(t, "far", x, 15, words...)
	checkStores(t, "far", x, 64, caps...)
	checkStores(t, "far", x, 79, caps...)
	checkStores(t, "far", x, 80)
	checkStores(t, "far", x, 16, bytes...)
	checkStores(t, "far", x, 17)
	for from := 0; from+farRound < api.MaxFuel; from += 97 {
		round := from / farRound * farRound
		want := round + 5
		if from > want {
			want += farRound
		}
		seek{1, 0, from, false, want}.check(t, "far", x)
		if want > from {
			want -= farRound
		}
		if want < 0 {
			want = -1
		}
		seek{1, 0, from, true, want}.check(t, "far", x)
	}
	seek{0, 0, most, true, api.MaxFuel}.check(t, "far", x)
	seek{0, 0, api.MaxFuel, false, api.MaxFuel}.check(t, "far", x)
	seek{0, 0, api.MaxFuel + 1, false, -1}.check(t, "far", x)
}
