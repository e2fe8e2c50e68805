package bound_test

import (
	"fmt"
	"testing"

	"paddock/api"
	"paddock/bound"
	"paddock/capmachine"
	"paddock/image"
	"paddock/lang"
	"paddock/sandbox"
)

// begun is a machine at a gate.
func begun(t testing.TB, m api.Image, gate int, args, inputs []uint64) *capmachine.Machine {
	t.Helper()
	x, e := capmachine.New(m, gate, args, inputs)
	if e != api.OK {
		t.Fatalf("New: %d, the gate %d of\n%s", e, gate, shown(m))
	}
	return x
}

// took is what a run took.
type took struct {
	steps, inputs, deep uint64
	end                 api.End
}

// followed goes through a run step by step, as far as so many steps.
func followed(t testing.TB, m api.Image, gate int, args, inputs []uint64, fuel int) took {
	t.Helper()
	x := begun(t, m, gate, args, inputs)
	var k took
	for range fuel {
		s := x.Snap()
		o := x.Step()
		k.steps++
		k.deep = max(k.deep, uint64(x.Snap().Depth))
		if o.End != api.Running {
			k.end = o.End
			break
		}
		if code := codeOf(m, s.Gate); code[s.Pc].Op == api.IN {
			k.inputs++
		}
	}
	return k
}

// checkWithin looks whether a run with as much as is told is over, takes no more, and ends neither Spent, Starved nor Overflow.
func checkWithin(t testing.TB, what string, m api.Image, gate int, args, inputs []uint64, c api.Cost) took {
	t.Helper()
	k := followed(t, m, gate, args, inputs, int(c.Steps)+5)
	o := begun(t, m, gate, args, inputs).Run(int(c.Steps))
	switch {
	case k.end == api.Running || k.steps > c.Steps || o.End == api.Spent:
		t.Fatalf("18.3: %s: %d steps, want at most %d; Run: %+v; the gate %d of\n%s", what, k.steps, c.Steps, o, gate, shown(m))
	case k.inputs > c.Inputs || uint64(len(inputs)) >= c.Inputs && (k.end == api.Starved || o.End == api.Starved):
		t.Fatalf("18.3: %s: %d inputs, want at most %d; Run: %+v; the gate %d of\n%s", what, k.inputs, c.Inputs, o, gate, shown(m))
	case k.deep > c.Calls || uint64(m.Depth) >= c.Calls && (k.end == api.Overflow || o.End == api.Overflow):
		t.Fatalf("18.3: %s: %d calls in calls, want at most %d; Run: %+v; the gate %d of\n%s", what, k.deep, c.Calls, o, gate, shown(m))
	}
	return k
}

// TestAnyRun: of programs of dice, from each gate that can be an entry, with any arguments.
func TestAnyRun(t *testing.T) {
	t.Parallel()
	ends := map[api.End]int{}
	all, most := 0, 0
	for seed := range uint64(3000) {
		d := rolled(30000 + seed)
		m := d.program()
		for gate, g := range m.Gates {
			c := bound.Gate(m, gate)
			if !isEntry(g) || !c.Known {
				continue
			}
			for range 3 {
				n := int(c.Inputs)
				for _, inputs := range [][]uint64{d.numbers(n), d.numbers(n + 3), d.numbers(max(n-1, 0)), nil} {
					for _, depth := range []int{max(int(c.Calls), 1), m.Depth, 1} {
						k := checkWithin(t, fmt.Sprintf("the program %d", seed), withDepth(m, depth), gate, d.numbers(len(g.Args)), inputs, c)
						ends[k.end]++
						all++
						if k.steps == c.Steps {
							most++
						}
					}
				}
			}
		}
	}
	for _, end := range []api.End{api.Halted, api.Guarded, api.Trapped, api.Overflow, api.Starved, api.Faulted} {
		if ends[end] < 50 {
			t.Errorf("%d runs end so: %d; the dice are too narrow", ends[end], end)
		}
	}
	if most < all/10 {
		t.Errorf("%d of %d runs take all steps: the dice are too narrow", most, all)
	}
}

// TestRoundsAndDeep: where Deep alone knows, no stack has more entries, whatever fuel there is.
func TestRoundsAndDeep(t *testing.T) {
	t.Parallel()
	runs, full, long := 0, 0, 0
	for seed := range uint64(4000) {
		d := rolled(40000 + seed)
		m := withDepth(d.program(), 16)
		for gate, g := range m.Gates {
			n, known := bound.Deep(m, gate)
			if !isEntry(g) || !known || bound.Gate(m, gate).Known {
				continue
			}
			k := followed(t, m, gate, d.numbers(len(g.Args)), d.numbers(8), 300)
			if k.deep > uint64(n) || k.end == api.Overflow {
				t.Fatalf("18.3: %d calls in calls, want at most %d, the gate %d of\n%s", k.deep, n, gate, shown(m))
			}
			runs++
			if n > 0 && k.deep == uint64(n) {
				full++
			}
			if k.end == api.Running {
				long++
			}
			if n > 0 {
				if o := begun(t, withDepth(m, n), gate, d.numbers(len(g.Args)), d.numbers(20)).Run(1000); o.End == api.Overflow {
					t.Fatalf("18.3: %+v with the depth %d, the gate %d of\n%s", o, n, gate, shown(m))
				}
			}
		}
	}
	if runs < 300 || full < 30 || long < 30 {
		t.Errorf("%d runs, %d as deep as may be, %d that go on and on: the dice are too narrow", runs, full, long)
	}
}

// bits are all rows of so many noughts and ones.
func bits(n int) [][]uint64 {
	var all [][]uint64
	for k := range 1 << n {
		l := make([]uint64, n)
		for b := range l {
			l[b] = uint64(k >> b & 1)
		}
		all = append(all, l)
	}
	return all
}

// anyEnds tells whether one of the runs with these inputs ends so.
func anyEnds(t testing.TB, m api.Image, gate int, rows [][]uint64, cut int, fuel uint64, end api.End) bool {
	t.Helper()
	for _, inputs := range rows {
		if begun(t, m, gate, nil, inputs[:len(inputs)-cut]).Run(int(fuel)).End == end {
			return true
		}
	}
	return false
}

// TestJustSoMuch: where there is a run for each way, one of them takes all that is told; and with one less of anything one is Spent, Starved or Overflow.
func TestJustSoMuch(t *testing.T) {
	t.Parallel()
	programs, taken, overrun, deep := 0, 0, 0, 0
	for seed := range uint64(300) {
		m := rolled(50000 + seed).steered()
		if e := image.Right(m); e != api.OK {
			t.Fatalf("the program %d: %d\n%s", seed, e, shown(m))
		}
		for gate := range m.Gates {
			c := bound.Gate(m, gate)
			if !c.Known {
				t.Fatalf("18.1: nothing is known of the gate %d of\n%s", gate, shown(m))
			}
			if c.Inputs > 9 {
				continue
			}
			programs++
			var most took
			rows := bits(int(c.Inputs))
			for _, inputs := range rows {
				k := checkWithin(t, fmt.Sprintf("the program %d", seed), withDepth(m, max(int(c.Calls), 1)), gate, nil, inputs, c)
				most.steps, most.inputs, most.deep = max(most.steps, k.steps), max(most.inputs, k.inputs), max(most.deep, k.deep)
				if k.end == api.Faulted {
					overrun++
				}
			}
			if got := cost(most.steps, most.deep, most.inputs); got != c {
				t.Fatalf("18.1: %+v, but runs take %+v, the gate %d of\n%s", c, got, gate, shown(m))
			}
			if !anyEnds(t, m, gate, rows, 0, c.Steps-1, api.Spent) {
				t.Errorf("18.3: with %d of fuel none is Spent, the gate %d of\n%s", c.Steps-1, gate, shown(m))
			}
			if c.Inputs > 0 && !anyEnds(t, m, gate, rows, 1, c.Steps, api.Starved) {
				t.Errorf("18.3: with %d inputs none is Starved, the gate %d of\n%s", c.Inputs-1, gate, shown(m))
			}
			if c.Calls > 1 {
				deep++
				if !anyEnds(t, withDepth(m, int(c.Calls)-1), gate, rows, 0, c.Steps, api.Overflow) {
					t.Errorf("18.3: with the depth %d none is Overflow, the gate %d of\n%s", c.Calls-1, gate, shown(m))
				}
			}
		}
		if isTaken(m) {
			taken++
		}
	}
	if programs < 400 || taken < 100 || taken > 290 || overrun < 20 || deep < 50 {
		t.Errorf("%d gates, %d programs taken, %d runs overrun, %d gates with calls in calls: the dice are too narrow", programs, taken, overrun, deep)
	}
}

// TestJustMaxFuel: as many steps as fuel may be, and one more.
func TestJustMaxFuel(t *testing.T) {
	for _, own := range []api.Inst{idle, in} {
		m, like := lasting(t, api.MaxFuel, own)
		m.Depth = len(m.Gates) - 1
		var inputs []uint64
		if own == in {
			inputs = make([]uint64, like)
		}
		check(t, "just MaxFuel", m, 0, cost(api.MaxFuel, uint64(m.Depth), uint64(len(inputs))), m.Depth)
		for fuel, end := range map[int]api.End{api.MaxFuel: api.Halted, api.MaxFuel - 1: api.Spent, api.MaxFuel + 1: api.Halted} {
			if o := begun(t, m, 0, nil, inputs).Run(fuel); o.End != end {
				t.Errorf("18.3: with the fuel %d: %+v, want %d", fuel, o, end)
			}
		}
		if o := begun(t, withDepth(m, m.Depth-1), 0, nil, inputs).Run(api.MaxFuel); o.End != api.Overflow {
			t.Errorf("18.3: with the depth %d: %+v", m.Depth-1, o)
		}
		if own == in {
			if o := begun(t, m, 0, nil, inputs[1:]).Run(api.MaxFuel); o.End != api.Starved {
				t.Errorf("18.3: with an input less: %+v", o)
			}
		}
		m, _ = lasting(t, api.MaxFuel+1, own)
		m.Depth = len(m.Gates) - 1
		if o := begun(t, m, 0, nil, make([]uint64, api.MaxFuel)).Run(api.MaxFuel + 1); o.End != api.Spent || bound.Gate(m, 0).Steps != api.MaxFuel+1 {
			t.Errorf("18.3: one more than MaxFuel: %+v, %+v", o, bound.Gate(m, 0))
		}
	}
}

// TestFaultsWithin: a run that faults does so within what is told, the step behind the code too.
func TestFaultsWithin(t *testing.T) {
	for _, x := range []struct {
		text string
		cost api.Cost
		want took
	}{
		{"depth 1;comp;li r1 5;gate g 0 0 ->", cost(2, 0, 0), took{steps: 2, end: api.Faulted}},
		{"depth 1;comp;lb r1 r1 0;ret;gate g 0 0 ->", cost(2, 0, 0), took{steps: 1, end: api.Faulted}},
		{"depth 1;comp;call 1;comp;ret;gate g 0 0 ->;gate h 1 0 ->", cost(3, 1, 0), took{steps: 3, deep: 1, end: api.Faulted}},
		{"depth 1;comp;call 1;comp;li r1 1;gate g 0 0 ->;gate h 1 0 ->", cost(4, 1, 0), took{steps: 3, deep: 1, end: api.Faulted}},
		{"depth 1;comp;call 1;ret;comp;ret;gate g 0 0 ->;gate h 1 0 cap 0 16 0 15 r 0 ->", cost(3, 1, 0), took{steps: 1, end: api.Faulted}},
		{"depth 1;comp;call 1;ret;comp;ret;gate g 0 0 ->;gate h 1 0 -> cap 0 16 0 15 r 0", cost(3, 1, 0), took{steps: 2, deep: 1, end: api.Faulted}},
		{"depth 1;comp;glt r0 0 1;gate g 0 0 ->", cost(2, 0, 0), took{steps: 1, end: api.Guarded}},
		{"depth 1;comp;gge r0 0 1;gate g 0 0 ->", cost(2, 0, 0), took{steps: 2, end: api.Faulted}},
		{"depth 1;comp;jmp 2;ret;bne r0 r0 1;gate g 0 0 ->", cost(3, 0, 0), took{steps: 3, end: api.Faulted}},
		{"depth 1;comp;jmp 2;ret;beq r0 r0 1;gate g 0 0 ->", cost(3, 0, 0), took{steps: 3, end: api.Halted}},
	} {
		m := parse(t, x.text)
		checkGate(t, x.text, m, 0, x.cost)
		if k := checkWithin(t, x.text, m, 0, nil, nil, x.cost); k != x.want {
			t.Errorf("18.3: %s: %+v, want %+v", x.text, k, x.want)
		}
	}
}

// TestTakenRuns: where a program is taken, the same holds on bare addresses.
func TestTakenRuns(t *testing.T) {
	runs := 0
	for seed := range uint64(200) {
		d := rolled(60000 + seed)
		m := d.steered()
		if !isTaken(m) {
			continue
		}
		s, e := image.Encode(m)
		p, f, _, _ := sandbox.Load(s)
		if e != api.OK || f != api.OK {
			t.Fatalf("Encode: %d, Load: %d", e, f)
		}
		for gate := range m.Gates {
			c := bound.Gate(m, gate)
			inputs := d.numbers(int(c.Inputs))
			a, _ := p.Run(gate, nil, inputs, int(c.Steps))
			b, _ := p.Slow(gate, nil, inputs, int(c.Steps))
			if a.Outcome != b.Outcome || a.Outcome.End != api.Halted && a.Outcome.End != api.Trapped && a.Outcome.End != api.Guarded {
				t.Fatalf("18.3: %+v, %+v, want no more than %+v, the gate %d of\n%s", a.Outcome, b.Outcome, c, gate, shown(m))
			}
			runs++
		}
	}
	if runs < 200 {
		t.Errorf("%d runs: the dice are too narrow", runs)
	}
}

// TestCompiled: of the small language, what has no round is known, and what has one is not.
func TestCompiled(t *testing.T) {
	m, e, line := lang.Compile("words a 8\ncomp main uses a {\n  fn some(n) { let i = in if i < n { let x = twice(i) out x } else { a[1] = n out a[1] } return i }\n  fn all(n) { let i = 0 while i < n { let x = twice(i) i = i + 1 } return i }\n}\ncomp other { fn twice(n) { return n + n } }\n")
	if e != api.OK {
		t.Fatalf("Compile: %d, line %d", e, line)
	}
	some, twice := bound.Gate(m, 0), bound.Gate(m, 2)
	if !some.Known || some.Calls != 1 || some.Inputs != 1 || !twice.Known || twice.Calls != 0 || twice.Inputs != 0 || some.Steps <= twice.Steps {
		t.Errorf("18.1: %+v, %+v", some, twice)
	}
	check(t, "a while", m, 1, unknown, 1)
	most := uint64(0)
	for _, input := range []uint64{0, 3, 4, 5, ^uint64(0)} {
		k := checkWithin(t, "an if", m, 0, []uint64{4}, []uint64{input}, some)
		most = max(most, k.steps)
	}
	if most != some.Steps {
		t.Errorf("18.3: %d steps, and %+v is told", most, some)
	}
}
