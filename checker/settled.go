package checker

import (
	"paddock/api"
	"paddock/regtype"
	"paddock/transfer"
)

// settles tells whether a gate's states say enough.
func settles(m api.Image, gate int, states []api.State) bool {
	if len(states) != len(codeOf(m, gate)) || !has(states[m.Gates[gate].Entry], transfer.Entry(m, gate)) {
		return false
	}
	for pc, s := range states {
		// Of a state that is not Live nothing comes, and with a Reason neither.
		for _, n := range transfer.Do(m, gate, pc, s).Next {
			if !has(states[n.Pc], n.State) {
				return false
			}
		}
	}
	return true
}

// has tells whether what can be in a state can be in the one that is there.
func has(there api.State, s api.State) bool { return there.Live && regtype.UnderState(s, there) }
