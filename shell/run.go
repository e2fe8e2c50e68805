package shell

import (
	"slices"

	"paddock/api"
	"paddock/capmachine"
	"paddock/checker"
	"paddock/erase"
	"paddock/fastvm"
	"paddock/tape"
)

// machine is what both machines can do.
type machine interface {
	Run(fuel int) api.Outcome
	Out() []uint64
	Touches() []api.Touch
}

// maker makes a machine that stands at the beginning of a run.
type maker func(m api.Image, gate int, args []uint64, inputs []uint64) (machine, api.Errno)

// onBareAddresses does what package sandbox does, which takes bytes alone: some programs have more than an image may have.
func onBareAddresses(m api.Image, gate int, args []uint64, inputs []uint64) (machine, api.Errno) {
	p, taken := erase.Program(m, checker.Check(m))
	if !taken {
		return nil, api.ErrCheck
	}
	// Bare addresses know nothing of types, so that it is asked here.
	if !isEntry(m, gate) {
		return nil, api.ErrEntry
	}
	return fastvm.New(p, gate, args, inputs)
}

func lookingAtEveryStep(m api.Image, gate int, args []uint64, inputs []uint64) (machine, api.Errno) {
	return capmachine.New(m, gate, args, inputs)
}

// isEntry tells whether a run can begin at a gate.
func isEntry(m api.Image, gate int) bool {
	isCap := func(t api.Type) bool { return t.Cap }
	return gate < len(m.Gates) && !slices.ContainsFunc(m.Gates[gate].Args, isCap)
}

// running makes a command that runs a program on one of the machines.
func running(begin maker) func(*shell, given) {
	return func(s *shell, g given) {
		m, e := begin(g.image(), g.gate, g.args, g.inputs)
		if e != api.OK {
			s.fail(g, e)
			return
		}
		o := m.Run(g.fuel)
		s.answer(g, endName(o.End), number(o.Value), number(o.Fault), "gate", number(o.Gate), "at", number(o.Pc))
		s.tellInner(append([]string{"out"}, numbers(m.Out())...)...)
		for _, t := range m.Touches() {
			s.tellInner(touchName(t), number(t.Addr), number(t.Size))
		}
	}
}

func endName(e api.End) string {
	switch e {
	case api.Halted:
		return "halted"
	case api.Guarded:
		return "guarded"
	case api.Trapped:
		return "trapped"
	case api.Spent:
		return "spent"
	case api.Overflow:
		return "overflow"
	case api.Starved:
		return "starved"
	}
	return "faulted"
}

func touchName(t api.Touch) string {
	if t.Store {
		return "store"
	}
	return "load"
}

func (s *shell) back(g given) {
	t, e := tape.Record(g.image(), g.gate, g.args, g.inputs, g.fuel)
	if e != api.OK {
		s.fail(g, e)
		return
	}
	at, e := t.At(g.step)
	if e != api.OK {
		s.fail(g, e)
		return
	}
	s.answer(g, number(g.step), "gate", number(at.Gate), "at", number(at.Pc), "deep", number(at.Depth))
	s.tellInner(numbers(at.Regs[:])...)
}
