package thread_test

import (
	"fmt"
	"testing"

	"paddock/api"
	"paddock/fastvm"
	"paddock/thread"
)

// longest is how many steps a program of the dice is let run.
const longest = 150

// tally counts what came about in the runs of all programs.
type tally struct {
	done, over map[api.FOp]int
	ends       map[api.End]int
	deepest    int
}

func untold() *tally {
	return &tally{done: map[api.FOp]int{}, over: map[api.FOp]int{}, ends: map[api.End]int{}}
}

func (c *tally) check(t *testing.T) {
	t.Helper()
	for _, op := range ops() {
		isEnd := op == api.FHALT || op == api.FTRAP || op == api.FGUARD
		if c.done[op] < 20 && !isEnd {
			t.Errorf("23.4: runs went on behind %s %d times: the programs are too narrow", nameOf(op), c.done[op])
		}
		mayEnd := isEnd || op == api.FIN || op == api.FCALL || op == api.FRET || op >= api.FLB
		if c.over[op] < 20 && mayEnd {
			t.Errorf("23.4: runs ended with %s %d times: the programs are too narrow", nameOf(op), c.over[op])
		}
	}
	for end := api.Halted; end <= api.Faulted; end++ {
		if c.ends[end] < 20 {
			t.Errorf("23.4: the end %d came %d times: the programs are too narrow", end, c.ends[end])
		}
	}
	if c.deepest < 10 {
		t.Errorf("23.4: %d calls in calls at most: the programs are too narrow", c.deepest)
	}
}

// follow steps the second machine, and holds what stands behind each step against a Run with just so much fuel.
func (c *tally) follow(t *testing.T, what string, p api.Program, gate int, args, inputs []uint64) {
	t.Helper()
	x, e := fastvm.New(p, gate, args, inputs)
	if e != api.OK {
		t.Fatalf("%s: a run may not begin: %d", what, e)
	}
	code := thread.Compile(p)
	var o api.Outcome
	for fuel := range longest {
		s := x.Snap()
		want := api.Result{Outcome: o, Out: x.Out(), Touches: x.Touches()}
		if o.End == api.Running {
			want.Outcome = api.Outcome{End: api.Spent, Gate: s.Gate, Pc: s.Pc}
		}
		if got := ran(t, code, gate, args, inputs, fuel); !same(got, want) {
			t.Fatalf("23.4: %s, with fuel %d: %+v, want %+v, of\n%v", what, fuel, got, want, p.Code)
		}
		c.deepest = max(c.deepest, s.Depth)
		if o.End != api.Running {
			break
		}
		o = x.Step()
		c.count(p, s, o)
	}
	if o.End == api.Running {
		o = x.Run(0)
	}
	c.ends[o.End]++
	got := ran(t, code, gate, args, inputs, 2*longest)
	if want := machined(t, p, gate, args, inputs, 2*longest); !same(got, want) {
		t.Fatalf("23.4: %s: %+v, want %+v", what, got, want)
	}
}

func (c *tally) count(p api.Program, before api.FSnap, o api.Outcome) {
	code := p.Code[before.Gate]
	switch {
	case before.Pc >= len(code):
	case o.End == api.Running:
		c.done[code[before.Pc].Op]++
	default:
		c.over[code[before.Pc].Op]++
	}
}

// TestTheSecondMachine: whatever program there is, from each of its gates, with each fuel.
func TestTheSecondMachine(t *testing.T) {
	t.Parallel()
	c := untold()
	for seed := range uint64(2500) {
		d := rolled(seed)
		p := d.program()
		for gate, g := range p.Gates {
			c.follow(t, fmt.Sprintf("program %d", seed), p, gate, d.numbers(g.Args), d.numbers(d.IntN(20)))
		}
	}
	c.check(t)
}

// TestAskew: programs that may be and such as may not; the errors are the second machine's.
func TestAskew(t *testing.T) {
	t.Parallel()
	counts := map[api.Errno]int{}
	for seed := range uint64(6000) {
		d := rolled(100_000 + seed)
		p := d.askew()
		c := thread.Compile(p)
		gate := of(d, 0, 0, 0, 0, d.IntN(6)-1)
		args := d.numbers(d.IntN(9))
		if gate >= 0 && gate < len(p.Gates) && !d.oneIn(4) {
			args = d.numbers(min(max(p.Gates[gate].Args, 0), 9))
		}
		inputs := d.numbers(d.IntN(5))
		x, want := fastvm.New(p, gate, args, inputs)
		counts[want]++
		if want != api.OK {
			checkEmpty(t, fmt.Sprintf("program %d", seed), c, gate, args, inputs, longest, want)
			continue
		}
		o := x.Run(longest)
		r, e := c.Run(gate, args, inputs, longest)
		if e != api.OK || !same(r, api.Result{Outcome: o, Out: x.Out(), Touches: x.Touches()}) {
			t.Fatalf("23.4: program %d: %+v, %d, want %+v", seed, r, e, o)
		}
	}
	if counts[api.OK] < 1000 || counts[api.ErrEntry] < 1000 || counts[api.ErrArgs] < 200 {
		t.Errorf("23.2: %v: the programs are too narrow", counts)
	}
}

// TestManySteps: runs of as many steps as there may be, with fuel that ends anywhere.
func TestManySteps(t *testing.T) {
	t.Parallel()
	long := 0
	for seed := range uint64(400) {
		d := rolled(200_000 + seed)
		p := d.program()
		args, inputs := d.numbers(p.Gates[0].Args), d.numbers(30)
		c := thread.Compile(p)
		for _, fuel := range []int{1000 + d.IntN(1000), 99_990 + d.IntN(20)} {
			got := ran(t, c, 0, args, inputs, fuel)
			if got.Outcome.End == api.Spent {
				long++
			}
			checkResult(t, fmt.Sprintf("program %d, with fuel %d", seed, fuel), got, machined(t, p, 0, args, inputs, fuel))
		}
	}
	if long < 40 {
		t.Errorf("23.4: %d long runs: the programs are too narrow", long)
	}
}
