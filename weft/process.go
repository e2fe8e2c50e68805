package weft

import (
	"paddock/api"
	"paddock/fastvm"
)

// process is a program that runs, on a machine of its own.
type process struct {
	code    [][]api.FInst // what the machine does, by gates; processes of one program share it, and nobody writes into it
	machine *fastvm.Machine
	in, out *queue // nil: none
	stands  api.Outcome
}

// newProcess is one at its beginning, in a net that is right.
func newProcess(p api.Proc, program api.Program, queues []*queue) *process {
	// All that could be wrong with it was asked ahead of this.
	m, _ := fastvm.New(program, p.Gate, p.Args, nil)
	x := &process{
		code:    program.Code,
		machine: m,
		in:      channelOf(queues, p.In),
		out:     channelOf(queues, p.Out),
		stands:  api.Outcome{Gate: p.Gate, Pc: program.Gates[p.Gate].Entry},
	}
	x.out.begin()
	return x
}

func channelOf(queues []*queue, k int) *queue {
	if k == none {
		return nil
	}
	return queues[k]
}

func (p *process) isOver() bool { return p.stands.End != api.Running }

// atHand is the instruction that comes next. It is there: a program that is taken never goes behind its code.
func (p *process) atHand() api.FInst { return p.code[p.stands.Gate][p.stands.Pc] }

// canGoOn tells whether it is not over, and would not wait.
func (p *process) canGoOn() bool {
	return !p.isOver() && (p.atHand().Op != api.FIN || !p.in.isAwaited())
}

// advance does at most so many steps, until it is over or waits, and tells how many it did.
func (p *process) advance(most int) int {
	done := 0
	for done < most && p.canGoOn() {
		p.step()
		done++
	}
	return done
}

// step does the instruction at hand, where it can go on. A machine at FIN to which nothing is given is Starved by that step.
func (p *process) step() {
	switch i := p.atHand(); i.Op {
	case api.FIN:
		if n, isThere := p.in.take(); isThere {
			p.machine.Give(n)
		}
	case api.FOUT:
		p.out.put(p.machine.Snap().Regs[i.A])
	}
	p.stand(p.machine.Step())
}

// stand keeps how it stands. Behind its end nothing more comes of it, which others may wait to know.
func (p *process) stand(o api.Outcome) {
	p.stands = o
	if p.isOver() {
		p.out.finish()
	}
}
