package tape_test

import (
	"slices"
	"testing"

	"paddock/api"
	"paddock/checker"
	"paddock/erase"
	"paddock/fastvm"
	"paddock/tape"
)

// addrs are some of ground, its edges among them.
func addrs(d dice) []uint64 {
	return []uint64{0, d.Uint64N(64), 63, 64, 64 + d.Uint64N(32), 80, d.Uint64N(64), api.MaxMem - 1, api.MaxMem - 1 - d.Uint64N(16), 30000}
}

// TestAgainstModel: runs by dice, held against the first machine.
func TestAgainstModel(t *testing.T) {
	t.Parallel()
	ends, stores, deep := map[api.End]int{}, 0, 0
	ground := alone(t, "ret")
	for seed := range uint64(400) {
		d := rolled(seed)
		r := d.run(ground)
		x, m := recorded(t, r), modelOf(t, r)
		m.checkEnd(t, "dice", x)
		m.checkPlaces(t, "dice", x, d.Perm(m.len()+1), addrs(d))
		m.checkStores(t, "dice", x)
		m.checkFinds(t, "dice", x, len(r.m.Gates), 12)
		if t.Failed() {
			t.Fatalf("of the run %d", seed)
		}
		ends[m.outcome.End]++
		for _, w := range m.wrote {
			stores += min(1, int(w.Size))
		}
		for _, s := range m.snaps {
			deep = max(deep, s.Depth)
		}
	}
	for _, end := range []api.End{api.Halted, api.Guarded, api.Trapped, api.Spent, api.Overflow, api.Starved} {
		if ends[end] < 8 {
			t.Errorf("%d runs ended by %d: the dice are too narrow", ends[end], end)
		}
	}
	if stores < 1000 || deep < 3 {
		t.Errorf("%d stores, %d deep: the dice are too narrow", stores, deep)
	}
}

// behindSteps is the second machine behind so many steps.
func behindSteps(t testing.TB, r run, steps int) *fastvm.Machine {
	t.Helper()
	p, _ := erase.Program(r.m, checker.Check(r.m))
	y, e := fastvm.New(p, r.gate, r.args, r.inputs)
	if e != api.OK {
		t.Fatalf("13.2: New: %d", e)
	}
	for range steps {
		y.Step()
	}
	return y
}

// TestSecondMachine: At and Byte are what the second machine tells behind so many steps, Outcome what its Run answers.
func TestSecondMachine(t *testing.T) {
	t.Parallel()
	ground := alone(t, "ret")
	for seed := range uint64(60) {
		d := rolled(1000 + seed)
		r := d.run(ground)
		x := recorded(t, r)
		checkOutcome(t, "the second machine", x, behindSteps(t, r, 0).Run(r.fuel))
		for range 6 {
			step := d.IntN(x.Len() + 1)
			y := behindSteps(t, r, step)
			checkAt(t, "the second machine", x, step, y.Snap())
			memory := y.Memory()
			for _, addr := range addrs(d) {
				checkByte(t, "the second machine", x, step, addr, memory[addr])
			}
		}
	}
}

// TestBytesStay: a byte is behind a step what it was ahead of it, unless that is one of its Stores; and each change has one.
func TestBytesStay(t *testing.T) {
	t.Parallel()
	ground := alone(t, "ret")
	for seed := range uint64(30) {
		d := rolled(2000 + seed)
		x := recorded(t, d.run(ground))
		for _, addr := range addrs(d) {
			l := x.Stores(addr)
			was, _ := x.Byte(0, addr)
			for step := 1; step <= x.Len(); step++ {
				is, _ := x.Byte(step, addr)
				if is != was && !slices.Contains(l, step) {
					t.Fatalf("21.7: the run %d: the step %d turned the byte at %d from %d to %d, and is none of its Stores %d", seed, step, addr, was, is, l)
				}
				was = is
			}
		}
	}
}

// places are those that are found, one behind the other.
func places(x *tape.Tape, gate, pc int) []int {
	var l []int
	for p := x.Find(gate, pc, 0, false); p != -1; p = x.Find(gate, pc, p+1, false) {
		l = append(l, p)
	}
	return l
}

// TestForthAndBack: what is found from one place on, and back from there, is found again; and all that is found, forth or back, is the same, each place once.
func TestForthAndBack(t *testing.T) {
	t.Parallel()
	ground := alone(t, "ret")
	for seed := range uint64(60) {
		d := rolled(3000 + seed)
		r := d.run(ground)
		x := recorded(t, r)
		count := 0
		for gate := range r.m.Gates {
			for pc := range 12 {
				l := places(x, gate, pc)
				count += len(l)
				for k, p := range l {
					seek{gate, pc, p, false, p}.check(t, "forth and back", x)
					seek{gate, pc, p, true, p}.check(t, "forth and back", x)
					ahead := -1
					if k > 0 {
						ahead = l[k-1]
					}
					seek{gate, pc, p - 1, true, ahead}.check(t, "forth and back", x)
				}
			}
		}
		want := x.Len()
		if x.Outcome().End == api.Spent {
			want++
		}
		if count != want {
			t.Errorf("21.7: the run %d: %d places are found in all, want %d", seed, count, want)
		}
	}
}

// TestLessFuel: a tape with less fuel is the beginning of one with more.
func TestLessFuel(t *testing.T) {
	t.Parallel()
	ground := alone(t, "ret")
	for seed := range uint64(25) {
		d := rolled(4000 + seed)
		r := d.run(ground)
		x := recorded(t, r)
		for fuel := range x.Len() {
			r.fuel = fuel
			y := recorded(t, r)
			checkLen(t, "less fuel", y, fuel)
			s, _ := x.At(fuel)
			checkOutcome(t, "less fuel", y, api.Outcome{End: api.Spent, Gate: s.Gate, Pc: s.Pc})
			checkAt(t, "less fuel", y, fuel, s)
			for _, addr := range addrs(d) {
				var want []int
				for _, step := range x.Stores(addr) {
					if step <= fuel {
						want = append(want, step)
					}
				}
				checkStores(t, "less fuel", y, addr, want...)
			}
		}
	}
}
