package erase_test

import (
	"slices"
	"testing"

	"paddock/api"
	"paddock/capmachine"
	"paddock/checker"
	"paddock/erase"
	"paddock/instr"
)

// run does the same on both machines, step by step.
type run struct {
	first  *capmachine.Machine
	second *machine
}

func begin(t testing.TB, m api.Image, p api.Program, gate int, args []uint64, inputs []uint64) run {
	t.Helper()
	x, e := capmachine.New(m, gate, args, inputs)
	if e != api.OK {
		t.Fatalf("a run may not begin: %d", e)
	}
	return run{x, newMachine(p, gate, args, inputs)}
}

// checkState holds what stands now on one machine against the other, but for memory.
func (r run) checkState(t testing.TB) {
	t.Helper()
	s := r.first.Snap()
	if got := erase.Snap(s); got != r.second.at {
		t.Fatalf("12.5: the second machine stands at %+v, the first at %+v", r.second.at, s)
	}
	if !slices.Equal(r.first.Out(), r.second.out) {
		t.Fatalf("12.5: at %+v: put out: %v, on the first machine %v", s, r.second.out, r.first.Out())
	}
	if !slices.Equal(r.first.Touches(), r.second.touches) {
		t.Fatalf("12.5: at %+v: touched: %v, on the first machine %v", s, r.second.touches, r.first.Touches())
	}
}

func (r run) checkMemory(t testing.TB) {
	t.Helper()
	if r.first.Memory().Bytes() != string(r.second.bytes[:]) {
		t.Fatalf("12.5: the bytes of memory are not the same")
	}
}

// to runs until it is over, or so many steps are done; of those that are done, tells which.
func (r run) to(t testing.TB, fuel int, done func(s api.Snap)) api.Outcome {
	t.Helper()
	r.checkState(t)
	r.checkMemory(t)
	for range fuel {
		done(r.first.Snap())
		o := r.first.Step()
		if got := r.second.step(); got != o {
			t.Fatalf("12.5: %+v, on the first machine %+v", got, o)
		}
		r.checkState(t)
		if o.End == api.Faulted {
			t.Fatalf("12.5: it faults: %+v", o)
		}
		if o.End != api.Running {
			r.checkMemory(t)
			return o
		}
	}
	r.checkMemory(t)
	return api.Outcome{End: api.Spent}
}

// tally counts what came about in runs.
type tally struct {
	ops  map[api.Op]int
	left map[api.FOp]int
	ends map[api.End]int
	seen map[does]int // in code, whether it was done or not
}

func untold() tally {
	return tally{map[api.Op]int{}, map[api.FOp]int{}, map[api.End]int{}, map[does]int{}}
}

// follow runs a program, from a gate that can be an entry, on both machines.
func (c tally) follow(t testing.TB, d dice, m api.Image, p api.Program) {
	t.Helper()
	gate := of(d, 0, 1, 3, len(m.Gates)-1)
	r := begin(t, m, p, gate, d.numbers(len(m.Gates[gate].Args)), d.numbers(d.IntN(60)))
	o := r.to(t, 150, func(s api.Snap) {
		c.ops[m.Comps[m.Gates[s.Gate].Comp].Code[s.Pc].Op]++
		c.left[p.Code[s.Gate][s.Pc].Op]++
	})
	c.ends[o.End]++
}

// check looks whether all came about often enough.
func (c tally) check(t *testing.T) {
	t.Helper()
	for _, op := range ops() {
		if c.ops[op] < 20 {
			t.Errorf("12.5: %s was done %d times: the programs are too narrow", instr.Name(op), c.ops[op])
		}
	}
	for name, op := range names() {
		if c.left[op] < 20 {
			t.Errorf("12.5: %s was done %d times: the programs are too narrow", name, c.left[op])
		}
	}
	for _, end := range []api.End{api.Halted, api.Guarded, api.Trapped, api.Spent, api.Overflow, api.Starved} {
		if c.ends[end] < 5 {
			t.Errorf("12.5: the end %d came %d times: the programs are too narrow", end, c.ends[end])
		}
	}
	for row := range chapterRows() {
		if c.seen[row] < 10 {
			t.Errorf("12.4: %s had the Verdict %d %d times: the programs are too narrow", instr.Name(row.op), row.verdict, c.seen[row])
		}
	}
}

// checkMayBe looks whether a program names registers, instructions and gates that are there, and no operation but those of bare addresses: none of these asks for a tag, a bound or a permission.
func checkMayBe(t *testing.T, p api.Program) {
	t.Helper()
	if len(p.Gates) == 0 || len(p.Gates) > api.MaxGates || len(p.Code) != len(p.Gates) || p.Depth < 1 || p.Depth > api.MaxDepth || len(p.Memory) != api.MaxMem {
		t.Fatalf("12.5: %d gates, %d rows of code, depth %d, %d bytes", len(p.Gates), len(p.Code), p.Depth, len(p.Memory))
	}
	known := map[api.FOp]bool{}
	for _, op := range names() {
		known[op] = true
	}
	for gate, code := range p.Code {
		g := p.Gates[gate]
		if g.Entry < 0 || g.Entry >= len(code) || g.Args < 0 || g.Args > api.MaxArgs || g.Results < 0 || g.Results > api.MaxArgs {
			t.Fatalf("12.5: the gate %d is %+v", gate, g)
		}
		for _, i := range code {
			codes, targets := api.Regs, top
			switch i.Op {
			case api.FGLT, api.FGGE, api.FGUARD:
				codes = 256
			case api.FJMP, api.FBEQ, api.FBNE, api.FBLT, api.FBGE:
				targets = uint64(len(code) - 1)
			case api.FCALL:
				targets = uint64(len(p.Gates) - 1)
			}
			if !known[i.Op] || i.A < 0 || i.A >= api.Regs || i.B < 0 || i.B >= api.Regs || i.C < 0 || i.C >= codes || i.Imm > targets {
				t.Fatalf("12.5: there is %+v in the code of the gate %d", i, gate)
			}
		}
	}
}

// TestTheSameStepByStep: programs that are taken have a Program, which is what the chapter says, and does what the first machine does.
func TestTheSameStepByStep(t *testing.T) {
	t.Parallel()
	c := untold()
	for seed := range uint64(120) {
		d := rolled(seed)
		m := d.taken()
		r := checker.Check(m)
		for range 16 {
			d.memory(&m)
			p := taken(t, "12.5", m)
			checkMayBe(t, p)
			checkModel(t, m, r.Table, p, c.seen)
			c.follow(t, d, m, p)
		}
	}
	c.check(t)
}

// TestTheSameWhereLessIsKnown: with other tables than Check's, which are settled and have no Reason.
func TestTheSameWhereLessIsKnown(t *testing.T) {
	t.Parallel()
	c := untold()
	others := 0
	for seed := range uint64(120) {
		d := rolled(1000 + seed)
		m := d.taken()
		r := checker.Check(m)
		for range 4 {
			table := d.loose(m, r.Table)
			p, ok := erase.Program(m, api.Report{Table: table})
			if !ok {
				t.Fatalf("12.2: a table of the dice will not do: settled: %t", checker.Settled(m, table))
			}
			checkMayBe(t, p)
			checkModel(t, m, table, p, c.seen)
			if !slices.EqualFunc(p.Code, taken(t, "12.5", m).Code, func(a, b []api.FInst) bool { return slices.Equal(a, b) }) {
				others++
			}
			for range 3 {
				c.follow(t, d, m, p)
			}
		}
	}
	c.check(t)
	if others < 100 {
		t.Errorf("%d Programs were other ones than by Check's table: the tables are too narrow", others)
	}
}

// TestTakenHasAProgram: and no other has, by what Check says of it.
func TestTakenHasAProgram(t *testing.T) {
	t.Parallel()
	has, none := 0, 0
	for seed := range uint64(600) {
		m := rolled(2000 + seed).any()
		if !isTaken(m) {
			none++
			r := checker.Check(m)
			checkNone(t, "of what is refused", m, r)
			r.Reason = api.Fine
			checkNone(t, "of what is refused, though it is said to be Fine", m, r)
			continue
		}
		has++
		checkModel(t, m, checker.Check(m).Table, taken(t, "12.5", m), map[does]int{})
	}
	if has < 20 || none < 100 {
		t.Errorf("%d programs were taken, %d not: they are too narrow", has, none)
	}
}
