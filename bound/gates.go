package bound

import (
	"paddock/api"
	"paddock/flow"
)

// costOf is what a gate takes, where the same can be asked of those that it calls.
func costOf(m api.Image, gate int, ask question[api.Cost]) (api.Cost, bool) {
	t := tally{code: codeOf(m, gate), costs: make([]api.Cost, len(m.Gates))}
	cost := api.Cost{Known: true}
	for _, called := range calledBy(m, gate) {
		c, known := ask(called)
		if !known {
			return api.Cost{}, false
		}
		t.costs[called] = c
		cost.Calls = max(cost.Calls, c.Calls+1)
	}
	entry := m.Gates[gate].Entry
	steps, known := t.most(entry, tally.steps)
	if !known || steps > api.MaxBound {
		return api.Cost{}, false
	}
	cost.Steps = steps
	// No way has more inputs than steps, and where the one is known the other is.
	cost.Inputs, _ = t.most(entry, tally.inputs)
	return cost, true
}

// deepOf is how many calls may be in calls from a gate on, where the same can be asked of those that it calls.
func deepOf(m api.Image, gate int, ask question[int]) (int, bool) {
	deep := 0
	for _, called := range calledBy(m, gate) {
		d, known := ask(called)
		if !known {
			return 0, false
		}
		deep = max(deep, d+1)
	}
	return deep, true
}

// calledBy are the gates that a gate calls; one that it calls twice is there twice.
func calledBy(m api.Image, gate int) []int {
	code := codeOf(m, gate)
	var l []int
	for pc, isComeTo := range flow.Reached(code, m.Gates[gate].Entry) {
		if isComeTo && code[pc].Op == api.CALL {
			l = append(l, code[pc].Imm)
		}
	}
	return l
}

func codeOf(m api.Image, gate int) []api.Inst {
	return m.Comps[m.Gates[gate].Comp].Code
}
