package checker

import (
	"paddock/api"
	"paddock/regtype"
	"paddock/transfer"
)

// look is a gate that is looked at: what is known so far ahead of each instruction of its compartment, and what was found in the end.
type look struct {
	program api.Image
	gate    int
	states  []api.State
	toDo    map[int]struct{} // the instructions whose states have news
	changed map[int]int      // by instruction, how often its state did
	steps   int
	reason  api.Reason // the first one, and its instruction
	pc      int
}

// lookAt looks at a gate, until nothing is to do any more.
func lookAt(m api.Image, gate int) *look {
	entry := m.Gates[gate].Entry
	l := &look{
		program: m,
		gate:    gate,
		states:  make([]api.State, len(codeOf(m, gate))),
		toDo:    map[int]struct{}{entry: {}},
		changed: map[int]int{},
	}
	l.states[entry] = transfer.Entry(m, gate)
	for len(l.toDo) > 0 {
		l.step()
	}
	l.judge()
	return l
}

// step does the lowest instruction that is to do. One that has a Reason has nothing next.
func (l *look) step() {
	pc := l.lowest()
	delete(l.toDo, pc)
	l.steps++
	for _, n := range l.do(pc).Next {
		l.comes(pc, n)
	}
}

func (l *look) do(pc int) api.Step { return transfer.Do(l.program, l.gate, pc, l.states[pc]) }

func (l *look) lowest() int {
	low := len(l.states)
	for pc := range l.toDo {
		low = min(low, pc)
	}
	return low
}

// comes lays what comes of an instruction to what is known of the next one. Each round goes back somewhere: it is enough to widen there, so that more stays known elsewhere.
func (l *look) comes(from int, n api.Succ) {
	there := l.states[n.Pc]
	now := regtype.JoinState(there, n.State)
	if there.Live && n.Pc <= from && l.changed[n.Pc] >= api.MaxChanges {
		now = regtype.WidenState(there, now)
	}
	if same(now, there) {
		return
	}
	l.states[n.Pc] = now
	l.changed[n.Pc]++
	l.toDo[n.Pc] = struct{}{}
}

func same(a api.State, b api.State) bool { return a.Live == b.Live && a.Regs == b.Regs }

// judge seeks the first instruction that is refused. One whose state is not Live has no Reason.
func (l *look) judge() {
	for pc := range l.states {
		if why := l.do(pc).Reason; why != api.Fine {
			l.reason, l.pc = why, pc
			return
		}
	}
}
