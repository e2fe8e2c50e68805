package cert

import (
	"slices"

	"paddock/api"
	"paddock/regtype"
	"paddock/transfer"
)

// walk goes once through the instructions of a gate's compartment.
type walk struct {
	m     api.Image
	gate  int
	said  []api.State // what the certificate says; not Live, where it says nothing
	known []api.State // the same, but where it says nothing what has come so far
}

func begin(m api.Image, gate int, said []api.State) walk {
	return walk{m: m, gate: gate, said: said, known: slices.Clone(said)}
}

// through goes from the first instruction to the last; with false it answers where the certificate does not show that all is right.
func (w walk) through() (int, bool) {
	entry := w.m.Gates[w.gate].Entry
	if !w.takes(entry, transfer.Entry(w.m, w.gate)) {
		return entry, false
	}
	for pc := range len(w.known) {
		if !w.passes(pc) {
			return pc, false
		}
	}
	return 0, true
}

// passes tells whether an instruction is sure not to fault, and what it leads to is said, or lies ahead of the walk. (Where nothing is known Do answers nothing, and so there is nothing to show.)
func (w walk) passes(pc int) bool {
	step := transfer.Do(w.m, w.gate, pc, w.known[pc])
	if step.Reason != api.Fine {
		return false
	}
	for _, n := range step.Next {
		// What comes to where the walk was already would not be looked at any more.
		isLost := n.Pc <= pc && !w.said[n.Pc].Live
		if isLost || !w.takes(n.Pc, n.State) {
			return false
		}
	}
	return true
}

// takes lets a state come to an instruction. It tells whether that is within what the certificate says there, if it says something.
func (w walk) takes(pc int, s api.State) bool {
	if w.said[pc].Live {
		return regtype.UnderState(s, w.said[pc])
	}
	w.known[pc] = regtype.JoinState(w.known[pc], s)
	return true
}

// goneBackTo is what a table says of the instructions that are gone back to, and nothing of others.
func goneBackTo(m api.Image, t api.Table) api.Table {
	l := make(api.Table, len(t))
	for gate := range len(t) {
		l[gate] = make([]api.State, len(t[gate]))
		for pc := range len(t[gate]) {
			for _, n := range transfer.Do(m, gate, pc, t[gate][pc]).Next {
				if n.Pc <= pc {
					l[gate][n.Pc] = t[gate][n.Pc]
				}
			}
		}
	}
	return l
}
