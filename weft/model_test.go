package weft_test

import (
	"slices"
	"testing"

	"paddock/api"
	"paddock/capmachine"
	"paddock/checker"
	"paddock/image"
)

// rightly is 20.1, as it is written.
func rightly(n api.Net) api.Errno {
	if len(n.Programs) > 8 || len(n.Procs) > 8 || len(n.Queues) > 8 {
		return api.ErrNet
	}
	for _, q := range n.Queues {
		if len(q) > 100000 {
			return api.ErrNet
		}
	}
	for _, m := range n.Programs {
		if image.Right(m) != api.OK || checker.Check(m).Reason != api.Fine {
			return api.ErrCheck
		}
	}
	for _, p := range n.Procs {
		if !isProcess(n, p) {
			return api.ErrNet
		}
	}
	for k, p := range n.Procs {
		for _, q := range n.Procs[k+1:] {
			if p.In == q.In && p.In != -1 || p.Out == q.Out && p.Out != -1 {
				return api.ErrShared
			}
		}
	}
	return api.OK
}

func isProcess(n api.Net, p api.Proc) bool {
	if p.Program < 0 || p.Program >= len(n.Programs) {
		return false
	}
	gates := n.Programs[p.Program].Gates
	if p.Gate < 0 || p.Gate >= len(gates) || len(gates[p.Gate].Args) != len(p.Args) {
		return false
	}
	for _, a := range gates[p.Gate].Args {
		if a.Cap {
			return false
		}
	}
	return p.In >= -1 && p.In < len(n.Queues) && p.Out >= -1 && p.Out < len(n.Queues)
}

// actor is a process on the first machine. As nothing can be given to that one later, it begins anew with each number that is taken, and does all its steps again.
type actor struct {
	program  api.Image
	proc     api.Proc
	machine  *capmachine.Machine
	inputs   []uint64 // taken so far
	done     int
	outcome  api.Outcome
	putSoFar int
}

func newActor(t testing.TB, n api.Net, p api.Proc) *actor {
	t.Helper()
	a := &actor{program: n.Programs[p.Program], proc: p}
	a.again(t)
	s := a.machine.Snap()
	a.outcome = api.Outcome{Gate: s.Gate, Pc: s.Pc}
	return a
}

func (a *actor) again(t testing.TB) {
	t.Helper()
	x, e := capmachine.New(a.program, a.proc.Gate, a.proc.Args, a.inputs)
	if e != api.OK {
		t.Fatalf("7.1: a process may not begin: %d", e)
	}
	for range a.done {
		x.Step()
	}
	a.machine = x
}

func (a *actor) isOver() bool { return a.outcome.End != api.Running }

func (a *actor) isAtIn() bool { return isAtIn(a.program, a.machine) }

// isAtIn tells whether the instruction at hand is IN.
func isAtIn(m api.Image, x *capmachine.Machine) bool {
	s := x.Snap()
	return m.Comps[m.Gates[s.Gate].Comp].Code[s.Pc].Op == api.IN
}

// model is a net as the chapter's words have it.
type model struct {
	actors []*actor
	queues [][]uint64
	taken  []int
}

func newModel(t testing.TB, n api.Net) *model {
	t.Helper()
	m := &model{taken: make([]int, len(n.Queues))}
	for _, q := range n.Queues {
		m.queues = append(m.queues, slices.Clone(q))
	}
	for _, p := range n.Procs {
		m.actors = append(m.actors, newActor(t, n, p))
	}
	return m
}

// isFed tells whether a channel has a writer that is not over.
func (m *model) isFed(channel int) bool {
	return slices.ContainsFunc(m.actors, func(a *actor) bool { return a.proc.Out == channel && !a.isOver() })
}

func (m *model) has(channel int) bool {
	return channel != -1 && m.taken[channel] < len(m.queues[channel])
}

func (m *model) waits(a *actor) bool {
	return a.isAtIn() && a.proc.In != -1 && !m.has(a.proc.In) && m.isFed(a.proc.In)
}

func (m *model) step(t testing.TB, a *actor) {
	t.Helper()
	if in := a.proc.In; a.isAtIn() && m.has(in) {
		a.inputs = append(a.inputs, m.queues[in][m.taken[in]])
		m.taken[in]++
		a.again(t)
	}
	a.outcome = a.machine.Step()
	a.done++
	put := a.machine.Out()
	if out := a.proc.Out; out != -1 {
		m.queues[out] = append(m.queues[out], put[a.putSoFar:]...)
	}
	a.putSoFar = len(put)
}

func (m *model) do(t testing.TB, proc int, steps int) int {
	t.Helper()
	if proc < 0 || proc >= len(m.actors) {
		return 0
	}
	a := m.actors[proc]
	done := 0
	for done < steps && !a.isOver() && !m.waits(a) {
		m.step(t, a)
		done++
	}
	return done
}

func (m *model) isIdle() bool {
	return !slices.ContainsFunc(m.actors, func(a *actor) bool { return !a.isOver() && !m.waits(a) })
}

func (m *model) flow() api.Flow {
	f := api.Flow{Queues: m.queues, Taken: m.taken}
	for _, a := range m.actors {
		f.Outcomes = append(f.Outcomes, a.outcome)
	}
	return f
}

// settled is Run's Flow by another way, in which nobody waits and no step is done behind another process's one: each program runs alone, with all that is in its In by now, again and again, until nothing new comes into any channel.
func settled(t testing.TB, n api.Net, fuel int) api.Flow {
	t.Helper()
	f := api.Flow{Outcomes: make([]api.Outcome, len(n.Procs)), Taken: make([]int, len(n.Queues))}
	for _, q := range n.Queues {
		f.Queues = append(f.Queues, slices.Clone(q))
	}
	for isNew := true; isNew; {
		isNew = false
		for k, p := range n.Procs {
			var inputs []uint64
			if p.In != -1 {
				inputs = f.Queues[p.In]
			}
			o, put, taken := aloneWith(t, n, p, inputs, fuel)
			f.Outcomes[k] = o
			if p.In != -1 {
				f.Taken[p.In] = taken
			}
			if p.Out != -1 && len(n.Queues[p.Out])+len(put) > len(f.Queues[p.Out]) {
				f.Queues[p.Out] = slices.Concat(n.Queues[p.Out], put)
				isNew = true
			}
		}
	}
	leaveWaiting(n, f.Outcomes)
	return f
}

// aloneWith runs a process's program on the first machine: how it ends, what it puts out, and how many inputs it takes.
func aloneWith(t testing.TB, n api.Net, p api.Proc, inputs []uint64, fuel int) (api.Outcome, []uint64, int) {
	t.Helper()
	m := n.Programs[p.Program]
	x, e := capmachine.New(m, p.Gate, p.Args, inputs)
	if e != api.OK {
		t.Fatalf("7.1: a process may not begin: %d", e)
	}
	taken := 0
	for range fuel {
		isIn := isAtIn(m, x)
		if o := x.Step(); o.End != api.Running {
			break
		}
		if isIn {
			taken++
		}
	}
	return x.Run(0), x.Out(), taken
}

// leaveWaiting makes those Running that are Starved alone, but whose In has a writer that is not over.
func leaveWaiting(n api.Net, outcomes []api.Outcome) {
	isOver := make([]bool, len(n.Procs))
	for isNew := true; isNew; {
		isNew = false
		for k, p := range n.Procs {
			writer := slices.IndexFunc(n.Procs, func(q api.Proc) bool { return q.Out == p.In })
			if !isOver[k] && (outcomes[k].End != api.Starved || p.In == -1 || writer < 0 || isOver[writer]) {
				isOver[k], isNew = true, true
			}
		}
	}
	for k := range outcomes {
		if !isOver[k] {
			outcomes[k].End = api.Running
		}
	}
}
