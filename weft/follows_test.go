package weft_test

import (
	"slices"
	"testing"

	"paddock/api"
	"paddock/capmachine"
	"paddock/checker"
	"paddock/erase"
	"paddock/fastvm"
	"paddock/weft"
)

// TestDice: what is rolled for these tests is right.
func TestDice(t *testing.T) {
	for seed := range uint64(300) {
		if n := rolled(seed).net(); weft.Right(n) != api.OK || rightly(n) != api.OK {
			t.Fatalf("20.1: the net %d: %d, want OK", seed, weft.Right(n))
		}
	}
}

// TestAgainstModel: scripts of Do's, with wrong ones between, do what the chapter's words say, step by step.
func TestAgainstModel(t *testing.T) {
	t.Parallel()
	ends, waited, idle := map[api.End]int{}, 0, 0
	for seed := range uint64(200) {
		d := rolled(seed)
		n := d.net()
		w, m := begun(t, n), newModel(t, n)
		for range 40 {
			proc, steps := d.IntN(len(n.Procs)+2)-1, of(d, -1, 0, 1, 1, 2, 3, 5, 9, d.IntN(30))
			got, want := w.Do(proc, steps), m.do(t, proc, steps)
			if got != want {
				t.Fatalf("20.3: the net %d: Do(%d, %d) is %d, want %d", seed, proc, steps, got, want)
			}
			if w.Idle() != m.isIdle() || !same(w.Flow(), m.flow()) {
				t.Fatalf("20.4: the net %d, behind Do(%d, %d): %v, %+v, want %v, %+v", seed, proc, steps, w.Idle(), w.Flow(), m.isIdle(), m.flow())
			}
		}
		for _, a := range m.actors {
			ends[a.outcome.End]++
			if !a.isOver() && m.waits(a) {
				waited++
			}
		}
		if m.isIdle() {
			idle++
		}
	}
	for _, end := range []api.End{api.Running, api.Halted, api.Guarded, api.Trapped, api.Overflow, api.Starved} {
		if ends[end] < 10 {
			t.Errorf("%d processes ended by %d: the dice are too narrow", ends[end], end)
		}
	}
	if waited < 30 || idle < 50 {
		t.Errorf("%d waited, %d nets were idle: the dice are too narrow", waited, idle)
	}
}

// TestRunIsSettled: what Run tells is what comes, by whatever way one reckons.
func TestRunIsSettled(t *testing.T) {
	t.Parallel()
	ends := map[api.End]int{}
	for seed := range uint64(300) {
		d := rolled(10000 + seed)
		n := d.net()
		for _, fuel := range []int{0, 1, 2, d.IntN(20), d.IntN(200)} {
			got, want := ran(t, n, fuel), settled(t, n, fuel)
			if !same(got, want) {
				t.Fatalf("20.5: the net %d, fuel %d: %+v, want %+v", seed, fuel, got, want)
			}
			for _, o := range got.Outcomes {
				ends[o.End]++
			}
		}
	}
	for _, end := range []api.End{api.Running, api.Halted, api.Guarded, api.Trapped, api.Spent, api.Overflow, api.Starved} {
		if ends[end] < 30 {
			t.Errorf("%d processes ended by %d: the dice are too narrow", ends[end], end)
		}
	}
}

// order is a way of choosing who goes on, and how far.
type order func(d dice, procs int, turn int) (proc int, steps int)

func orders() []order {
	return []order{
		func(_ dice, procs, turn int) (int, int) { return turn % procs, 1 },
		func(_ dice, procs, turn int) (int, int) { return procs - 1 - turn%procs, 1 },
		func(_ dice, procs, turn int) (int, int) { return turn % procs, api.MaxFuel },
		func(_ dice, procs, turn int) (int, int) { return procs - 1 - turn%procs, 200 },
		func(_ dice, procs, turn int) (int, int) { return turn / 7 % procs, 3 },
		func(d dice, procs, _ int) (int, int) { return d.IntN(procs), 1 + d.IntN(9) },
		func(d dice, procs, _ int) (int, int) { return max(d.IntN(procs), d.IntN(procs)), of(d, 1, 1, 40) },
	}
}

// place is where a process stands behind so many steps.
type place struct{ proc, done int }

// played is what came of a script.
type played struct {
	flow   api.Flow
	isIdle bool
	done   []int
}

// play does a script in some order, until nobody can go on, or for so many turns; it keeps where processes stood.
func play(t testing.TB, d dice, n api.Net, o order, turns int, stood map[place]api.Outcome) played {
	t.Helper()
	w := begun(t, n)
	p := played{done: make([]int, len(n.Procs))}
	for turn := 0; turn < turns && !w.Idle(); turn++ {
		proc, steps := o(d, len(n.Procs), turn)
		p.done[proc] += w.Do(proc, min(steps, 400))
		at := place{proc, p.done[proc]}
		now := w.Flow().Outcomes[proc]
		if was, isThere := stood[at]; isThere && was != now {
			t.Fatalf("20.6: the process %d stands behind %d steps at %+v, by another order at %+v, of %+v", proc, at.done, now, was, n)
		}
		stood[at] = now
	}
	p.flow, p.isIdle = w.Flow(), w.Idle()
	return p
}

func isBeginning(a, b []uint64) bool { return len(a) <= len(b) && slices.Equal(a, b[:len(a)]) }

// TestOrders: scripts of several orders, some of which stop early: what is in a channel hangs on none of them.
func TestOrders(t *testing.T) {
	t.Parallel()
	idle, asRun, early := 0, 0, 0
	for seed := range uint64(120) {
		d := rolled(20000 + seed)
		n := d.net()
		stood := map[place]api.Outcome{}
		var all []played
		for _, o := range orders() {
			for _, turns := range []int{d.IntN(30), 60 + d.IntN(100)} {
				all = append(all, play(t, d, n, o, turns, stood))
			}
		}
		run := ran(t, n, api.MaxFuel/20)
		isSpent := slices.ContainsFunc(run.Outcomes, func(o api.Outcome) bool { return o.End == api.Spent })
		for k, a := range all {
			for _, b := range all[:k] {
				for c := range n.Queues {
					if !isBeginning(a.flow.Queues[c], b.flow.Queues[c]) && !isBeginning(b.flow.Queues[c], a.flow.Queues[c]) {
						t.Fatalf("20.6: the net %d, the channel %d: %d by one order, %d by another", seed, c, a.flow.Queues[c], b.flow.Queues[c])
					}
				}
				if a.isIdle && b.isIdle && (!same(a.flow, b.flow) || !slices.Equal(a.done, b.done)) {
					t.Fatalf("20.6: the net %d, Idle: %+v by one order, %+v by another", seed, a.flow, b.flow)
				}
			}
			switch {
			case !a.isIdle:
				early++
			case !isSpent && !same(a.flow, run):
				t.Fatalf("20.6: the net %d, Idle: %+v, by Run %+v", seed, a.flow, run)
			case !isSpent:
				asRun++
				fallthrough
			default:
				idle++
			}
			for c := range n.Queues {
				if !isSpent && !isBeginning(a.flow.Queues[c], run.Queues[c]) {
					t.Fatalf("20.6: the net %d, the channel %d: %d, by Run %d", seed, c, a.flow.Queues[c], run.Queues[c])
				}
			}
		}
	}
	if idle < 200 || asRun < 200 || early < 200 {
		t.Errorf("%d scripts ended Idle, %d of them as Run, %d ended early: the dice are too narrow", idle, asRun, early)
	}
}

// TestAlone: a net of one process does what its program does alone, on both machines.
func TestAlone(t *testing.T) {
	t.Parallel()
	ends := map[api.End]int{}
	for seed := range uint64(500) {
		d := rolled(30000 + seed)
		m := d.program()
		gate := d.IntN(len(m.Gates))
		args, inputs, fuel := d.numbers(len(m.Gates[gate].Args)), d.numbers(d.IntN(12)), of(d, 0, 1, 7, 30, 300, d.IntN(300))
		n := api.Net{Programs: []api.Image{m}, Procs: []api.Proc{{Gate: gate, Args: args, In: 1, Out: 0}}, Queues: [][]uint64{nil, inputs}}
		f := ran(t, n, fuel)
		x, _ := capmachine.New(m, gate, args, inputs)
		if o := x.Run(fuel); o != f.Outcomes[0] || !slices.Equal(x.Out(), f.Queues[0]) {
			t.Fatalf("20.6: the program %d: %+v, alone on the first machine %+v, %d", seed, f, o, x.Out())
		}
		p, _ := erase.Program(m, checker.Check(m))
		y, _ := fastvm.New(p, gate, args, inputs)
		o := y.Run(fuel)
		if o != f.Outcomes[0] || !slices.Equal(y.Out(), f.Queues[0]) {
			t.Fatalf("20.6: the program %d: %+v, alone on the second machine %+v, %d", seed, f, o, y.Out())
		}
		if o.End != api.Spent {
			w := begun(t, n)
			finish(t, w, 1)
			checkFlow(t, "20.6: alone, by Do", w.Flow(), f)
		}
		ends[o.End]++
	}
	for _, end := range []api.End{api.Halted, api.Guarded, api.Trapped, api.Spent, api.Overflow, api.Starved} {
		if ends[end] < 10 {
			t.Errorf("%d programs ended by %d: the dice are too narrow", ends[end], end)
		}
	}
}

// TestAllArguments: of whatever net there is an answer, and Right's is the first error.
func TestAllArguments(t *testing.T) {
	t.Parallel()
	told := map[api.Errno]int{}
	for seed := range uint64(700) {
		n := rolled(40000 + seed).any()
		want := rightly(n)
		checkRight(t, "dice", n, want)
		told[want]++
	}
	for _, e := range []api.Errno{api.OK, api.ErrNet, api.ErrCheck, api.ErrShared} {
		if told[e] < 25 {
			t.Errorf("%d nets had %d: the dice are too narrow", told[e], e)
		}
	}
}
