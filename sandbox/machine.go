package sandbox

import (
	"paddock/api"
	"paddock/capmachine"
	"paddock/fastvm"
)

// machine is what both machines can do.
type machine interface {
	Run(fuel int) api.Outcome
	Out() []uint64
	Touches() []api.Touch
}

// maker makes a machine that stands at the beginning of a run, or tells that there are too few arguments, or too many. It is a new one for each run, so that none finds what another one left.
type maker func(p *Program, gate int, args []uint64, inputs []uint64) (machine, api.Errno)

func onBareAddresses(p *Program, gate int, args []uint64, inputs []uint64) (machine, api.Errno) {
	return fastvm.New(p.bare, gate, args, inputs)
}

func lookingAtEveryStep(p *Program, gate int, args []uint64, inputs []uint64) (machine, api.Errno) {
	return capmachine.New(p.program, gate, args, inputs)
}

// runOn runs it on one of the machines.
func (p *Program) runOn(begin maker, gate int, args []uint64, inputs []uint64, fuel int) (api.Result, api.Errno) {
	if !p.isEntry(gate) {
		return api.Result{}, api.ErrEntry
	}
	m, e := begin(p, gate, args, inputs)
	if e != api.OK {
		return api.Result{}, e
	}
	outcome := m.Run(fuel)
	return api.Result{Outcome: outcome, Out: m.Out(), Touches: m.Touches()}, api.OK
}
