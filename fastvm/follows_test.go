package fastvm_test

import (
	"fmt"
	"sync"
	"testing"

	"paddock/api"
	"paddock/fastvm"
)

// tally counts what came about in the runs of all programs.
type tally struct {
	done, over map[api.FOp]int
	ends       map[api.End]int
}

func (c tally) count(p api.Program, before api.FSnap, o api.Outcome) {
	c.ends[o.End]++
	code := p.Code[before.Gate]
	switch {
	case before.Pc >= len(code):
	case o.End == api.Running:
		c.done[code[before.Pc].Op]++
	default:
		c.over[code[before.Pc].Op]++
	}
}

func (c tally) check(t *testing.T) {
	t.Helper()
	for _, op := range ops() {
		isEnd := op == api.FHALT || op == api.FTRAP || op == api.FGUARD
		if c.done[op] < 20 && !isEnd {
			t.Errorf("13.5: runs went on behind %s %d times: the programs are too narrow", nameOf(op), c.done[op])
		}
		mayEnd := isEnd || op == api.FIN || op == api.FCALL || op == api.FRET || op >= api.FLB
		if c.over[op] < 20 && mayEnd || c.over[op] > 0 && !mayEnd {
			t.Errorf("13.5: runs ended with %s %d times", nameOf(op), c.over[op])
		}
	}
	for end := api.Running; end <= api.Faulted; end++ {
		if c.ends[end] < 20 && end != api.Spent {
			t.Errorf("13.5: the end %d came %d times: the programs are too narrow", end, c.ends[end])
		}
	}
}

// TestStepByStep holds runs of many programs against the model.
func TestStepByStep(t *testing.T) {
	c := tally{map[api.FOp]int{}, map[api.FOp]int{}, map[api.End]int{}}
	for seed := range uint64(5000) {
		d := rolled(seed)
		p, args := d.program()
		inputs := d.numbers(d.IntN(10))
		x, y := begin(t, p, 0, args, inputs), newModel(p, 0, args, inputs)
		for n := range longest {
			before := x.Snap()
			got, want := x.Step(), y.step()
			c.count(p, before, got)
			if got != want || x.Snap() != y.at {
				t.Fatalf("13.3: program %d, step %d: %+v, %+v, want %+v, %+v", seed, n, got, x.Snap(), want, y.at)
			}
			if got.End != api.Running {
				break
			}
		}
		if checkLook(t, "13.3: the end of a program", x, y.look()); t.Failed() {
			t.Fatalf("the program %d", seed)
		}
	}
	c.check(t)
}

// TestRunIsSoManySteps: but for Spent.
func TestRunIsSoManySteps(t *testing.T) {
	for seed := range uint64(600) {
		d := rolled(seed)
		p, args := d.program()
		inputs, fuel := d.numbers(d.IntN(10)), d.IntN(40)
		x, y := begin(t, p, 0, args, inputs), begin(t, p, 0, args, inputs)
		got := x.Run(fuel)
		want := api.Outcome{Pc: p.Gates[0].Entry}
		for range fuel {
			want = y.Step()
		}
		if want.End == api.Running {
			want.End = api.Spent
		}
		checkOutcome(t, "13.5: Run and Steps", got, want)
		checkLook(t, "13.5: Run and Steps", x, lookAt(y))
	}
}

// TestByTurns: machines know nothing of one another, be they of one program or of two.
func TestByTurns(t *testing.T) {
	for seed := range uint64(100) {
		d := rolled(seed)
		p, args := d.program()
		other, otherArgs := d.program()
		inputs := d.numbers(8)
		x, y, z := begin(t, p, 0, args, inputs), begin(t, p, 0, args, inputs), begin(t, other, 0, otherArgs, inputs)
		alone := begin(t, p, 0, args, inputs)
		alone.Run(longest)
		for range longest {
			z.Step()
			checkOutcome(t, "13.5: two machines by turns", x.Step(), y.Step())
		}
		want := lookAt(alone)
		checkOutcome(t, "13.5: two machines by turns", x.Run(0), alone.Run(0))
		checkLook(t, "13.5: two machines by turns", x, want)
		checkLook(t, "13.5: two machines by turns", y, want)
	}
}

// TestAtOnce: machines of one program, and copies, each done by a goroutine.
func TestAtOnce(t *testing.T) {
	p := stage(t)
	inputs := []uint64{2, 4, 1, 6, 0, 8}
	first, want := begin(t, p, 0, nil, inputs), begin(t, p, 0, nil, inputs)
	want.Run(longest)
	l := make([]*fastvm.Machine, 16)
	for k := range l {
		l[k] = first.Copy()
		if k%2 == 0 {
			l[k] = begin(t, p, 0, nil, inputs)
		}
	}
	var wait sync.WaitGroup
	for _, x := range l {
		wait.Go(func() { x.Run(longest) })
	}
	wait.Wait()
	for _, x := range l {
		checkLook(t, "13.5: many at once", x, lookAt(want))
	}
}

// TestWhatAStepMayDo: at most one touch and one output, the touch in memory; and memory changes by stores alone, just as they say.
func TestWhatAStepMayDo(t *testing.T) {
	stores := 0
	for seed := range uint64(700) {
		d := rolled(seed)
		p, args := d.program()
		x := begin(t, p, 0, args, d.numbers(10))
		memory := x.Memory()
		for step := range longest {
			before, out, touches := x.Snap(), len(x.Out()), x.Touches()
			o := x.Step()
			now := x.Touches()
			if len(x.Out()) > out+1 || len(now) > len(touches)+1 || len(now) > step+1 {
				t.Fatalf("13.5: a step of the program %d put out %v, touched %v", seed, x.Out()[out:], now[len(touches):])
			}
			if len(now) > len(touches) {
				last := now[len(now)-1]
				if last.Addr >= api.MaxMem || last.Size > api.MaxMem-last.Addr {
					t.Fatalf("13.5: touched %+v", last)
				}
				if last.Store {
					stores++
					memory = stored(memory, int(last.Addr), int(last.Size), before.Regs[p.Code[before.Gate][before.Pc].A])
				}
			}
			if x.Memory() != memory {
				t.Fatalf("13.5: memory is another one behind the step %d of the program %d", step, seed)
			}
			if o.End != api.Running {
				break
			}
		}
	}
	if stores < 300 {
		t.Errorf("13.5: %d stores: the programs are too narrow", stores)
	}
}

// TestWhatCallsLeave: behind an FCALL all registers are the arguments and the roots; behind its FRET all but the results are as they were.
func TestWhatCallsLeave(t *testing.T) {
	calls, returns := 0, 0
	for seed := range uint64(3000) {
		d := rolled(seed)
		p, args := d.program()
		x := begin(t, p, 0, args, d.numbers(10))
		var callers []api.FSnap
		for range longest {
			before := x.Snap()
			if x.Step().End != api.Running {
				break
			}
			now := x.Snap()
			switch now.Depth - before.Depth {
			case 1:
				calls++
				callers = append(callers, before)
				checkInside(t, p, before, now)
			case -1:
				returns++
				caller := callers[len(callers)-1]
				callers = callers[:len(callers)-1]
				checkBack(t, p, caller, before, now)
			}
		}
	}
	if calls < 300 || returns < 300 {
		t.Errorf("13.5: %d calls, %d returns: the programs are too narrow", calls, returns)
	}
}

func checkInside(t *testing.T, p api.Program, before, now api.FSnap) {
	t.Helper()
	g := p.Gates[now.Gate]
	want := api.FSnap{Gate: now.Gate, Pc: g.Entry, Depth: before.Depth + 1, Regs: g.Roots}
	copy(want.Regs[1:], before.Regs[1:1+g.Args])
	if now != want {
		t.Errorf("13.5: behind an FCALL %+v, want %+v", now, want)
	}
}

func checkBack(t *testing.T, p api.Program, caller, before, now api.FSnap) {
	t.Helper()
	want := caller
	want.Pc++
	copy(want.Regs[1:], before.Regs[1:1+p.Gates[before.Gate].Results])
	if now != want {
		t.Errorf("13.5: behind an FRET %+v, want %+v", now, want)
	}
}

// TestManyMachines: many of one program, some by steps and some by Run.
func TestManyMachines(t *testing.T) {
	d := rolled(5)
	p, args := d.program()
	inputs := d.numbers(9)
	want := begin(t, p, 0, args, inputs)
	want.Run(longest)
	for k := range 20 {
		x := begin(t, p, 0, args, inputs)
		for range k {
			x.Step()
		}
		x.Run(longest - k)
		checkLook(t, fmt.Sprintf("13.5: %d steps, then Run", k), x, lookAt(want))
	}
}
