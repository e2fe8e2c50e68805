package transfer

import "paddock/api"

func refused(why api.Reason) api.Step { return api.Step{Reason: why} }

// ends is a step behind which nothing comes.
func ends() api.Step { return api.Step{} }

// goes is a step to one instruction alone.
func goes(pc int, s api.State) api.Step {
	return api.Step{Next: []api.Succ{{Pc: pc, State: s}}}
}

// on is a step to the instruction behind, where this is known.
func (x *spot) on(s api.State) api.Step {
	if x.isLast() {
		return refused(api.RFall)
	}
	return goes(x.pc+1, s)
}

func (x *spot) isLast() bool { return x.pc+1 == len(x.code) }

// stays goes on with the state as it is.
func (x *spot) stays() api.Step { return x.on(x.known) }

// lay goes on with this in A.
func (x *spot) lay(r api.RType) api.Step {
	s := x.known
	s.Regs[x.inst.A] = r
	return x.on(s)
}

// told is a step of which more is known than that it is right, if it is.
func told(t api.Step, v api.Verdict, n uint64) api.Step {
	if t.Reason == api.Fine {
		t.Verdict, t.Value = v, n
	}
	return t
}
