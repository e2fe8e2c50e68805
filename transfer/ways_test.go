package transfer_test

import (
	"testing"

	"paddock/api"
	"paddock/transfer"
)

// codeCap is what is known of a capability for the code of inner's compartment that points to an instruction.
func codeCap(pc uint64) api.RType {
	return capability(base, base+size*api.Width, base+pc*api.Width, base+pc*api.Width, api.Exec, 0)
}

func TestJumps(t *testing.T) {
	for to := range size {
		i := api.Inst{Op: api.JMP, Imm: to}
		want := api.Step{Next: []api.Succ{succ(to, nil)}}
		checkStep(t, "10.4: JMP", transfer.Do(yard(i), inner, at, ahead(nil)), want)
		m := yard(i)
		m.Comps[1].Code[size-1] = i
		checkStep(t, "10.4: JMP, the last one", transfer.Do(m, inner, size-1, ahead(nil)), want)
	}
}

// TestBranches: what is next, the instruction behind first, each with what is left of A and B.
func TestBranches(t *testing.T) {
	few, more, one8 := integer(0, 40), integer(30, 60), integer(8, 8)
	for _, c := range []struct {
		text string
		r    regs
		next []api.Succ
	}{
		{"blt r1 r2 4", regs{1: few, 2: one8}, []api.Succ{succ(3, regs{1: integer(8, 40), 2: one8}), succ(4, regs{1: integer(0, 7), 2: one8})}},
		{"bge r1 r2 4", regs{1: few, 2: one8}, []api.Succ{succ(3, regs{1: integer(0, 7), 2: one8}), succ(4, regs{1: integer(8, 40), 2: one8})}},
		{"beq r1 r2 4", regs{1: few, 2: one8}, []api.Succ{succ(3, regs{1: few, 2: one8}), succ(4, regs{1: one8, 2: one8})}},
		{"bne r1 r2 4", regs{1: few, 2: one8}, []api.Succ{succ(3, regs{1: one8, 2: one8}), succ(4, regs{1: few, 2: one8})}},
		{"bne r1 r2 4", regs{1: few, 2: integer(0, 0)}, []api.Succ{succ(3, regs{1: integer(0, 0), 2: integer(0, 0)}), succ(4, regs{1: integer(1, 40), 2: integer(0, 0)})}},
		{"beq r1 r2 0", regs{1: few, 2: integer(40, 40)}, []api.Succ{succ(3, regs{1: integer(0, 39), 2: integer(40, 40)}), succ(0, regs{1: integer(40, 40), 2: integer(40, 40)})}},
		{"blt r1 r2 4", regs{1: few, 2: more}, []api.Succ{succ(3, regs{1: integer(30, 40), 2: integer(30, 40)}), succ(4, regs{1: few, 2: more})}},
		{"bge r1 r2 4", regs{1: more, 2: few}, []api.Succ{succ(3, regs{1: integer(30, 39), 2: integer(31, 40)}), succ(4, regs{1: more, 2: few})}},
		{"beq r1 r2 4", regs{1: few, 2: more}, []api.Succ{succ(3, regs{1: few, 2: more}), succ(4, regs{1: integer(30, 40), 2: integer(30, 40)})}},

		// Taken in any case, or never.
		{"blt r1 r2 4", regs{1: few, 2: integer(41, 60)}, []api.Succ{succ(4, regs{1: few, 2: integer(41, 60)})}},
		{"blt r1 r2 4", regs{1: few, 2: integer(40, 60)}, []api.Succ{succ(3, regs{1: integer(40, 40), 2: integer(40, 40)}), succ(4, regs{1: few, 2: integer(40, 60)})}},
		{"blt r1 r2 4", regs{1: integer(60, 70), 2: more}, []api.Succ{succ(3, regs{1: integer(60, 70), 2: more})}},
		{"bge r1 r2 4", regs{1: few, 2: integer(41, 60)}, []api.Succ{succ(3, regs{1: few, 2: integer(41, 60)})}},
		{"bge r1 r2 4", regs{1: integer(60, 70), 2: more}, []api.Succ{succ(4, regs{1: integer(60, 70), 2: more})}},
		{"beq r1 r2 4", regs{1: few, 2: integer(41, 41)}, []api.Succ{succ(3, regs{1: few, 2: integer(41, 41)})}},
		{"beq r1 r2 4", regs{1: one8, 2: one8}, []api.Succ{succ(4, regs{1: one8, 2: one8})}},
		{"bne r1 r2 4", regs{1: one8, 2: one8}, []api.Succ{succ(3, regs{1: one8, 2: one8})}},
		{"bne r1 r2 4", regs{1: few, 2: integer(41, 41)}, []api.Succ{succ(4, regs{1: few, 2: integer(41, 41)})}},
		{"blt r1 r2 4", regs{1: integer(top, top), 2: integer(0, top)}, []api.Succ{succ(3, regs{1: integer(top, top), 2: integer(0, top)})}},

		// To itself, and to the instruction behind.
		{"blt r1 r2 2", regs{1: few, 2: one8}, []api.Succ{succ(3, regs{1: integer(8, 40), 2: one8}), succ(2, regs{1: integer(0, 7), 2: one8})}},
		{"blt r1 r2 3", regs{1: few, 2: one8}, []api.Succ{succ(3, regs{1: few, 2: one8})}},
		{"beq r1 r2 3", regs{1: few, 2: more}, []api.Succ{succ(3, regs{1: few, 2: more})}},
		{"blt r1 r2 3", regs{1: few, 2: integer(41, 60)}, []api.Succ{succ(3, regs{1: few, 2: integer(41, 60)})}},
		{"blt r1 r2 3", regs{1: integer(60, 70), 2: more}, []api.Succ{succ(3, regs{1: integer(60, 70), 2: more})}},
		{"bne r1 r2 3", regs{1: one8, 2: one8}, []api.Succ{succ(3, regs{1: one8, 2: one8})}},

		// Of a register with itself: B's span counts, as it is laid last.
		{"blt r1 r1 4", regs{1: few}, []api.Succ{succ(3, regs{1: few}), succ(4, regs{1: integer(1, 40)})}},
		{"blt r1 r1 3", regs{1: few}, []api.Succ{succ(3, regs{1: few})}},
		{"blt r1 r1 4", regs{1: one8}, []api.Succ{succ(3, regs{1: one8})}},
		{"bge r1 r1 4", regs{1: few}, []api.Succ{succ(3, regs{1: integer(1, 40)}), succ(4, regs{1: few})}},
		{"bge r1 r1 4", regs{1: one8}, []api.Succ{succ(4, regs{1: one8})}},
		{"beq r1 r1 4", regs{1: few}, []api.Succ{succ(3, regs{1: few}), succ(4, regs{1: few})}},
		{"beq r1 r1 4", regs{1: one8}, []api.Succ{succ(4, regs{1: one8})}},
		{"bne r1 r1 4", regs{1: one8}, []api.Succ{succ(3, regs{1: one8})}},
		{"bne r1 r1 3", regs{1: one8}, []api.Succ{succ(3, regs{1: one8})}},
	} {
		checkStep(t, "10.4: "+c.text, do(c.text, c.r), api.Step{Next: c.next})
	}
}

func TestBranchesNeedIntegers(t *testing.T) {
	for _, op := range []string{"beq", "bne", "blt", "bge"} {
		checkRefusals(t, "10.4", []refusal{
			{op + " r8 r1 0", nil, api.RInt},
			{op + " r1 r8 0", nil, api.RInt},
			{op + " r8 r8 0", nil, api.RInt},
			{op + " r1 r2 0", regs{1: nothing()}, api.RInt},
			{op + " r1 r2 0", regs{2: nothing()}, api.RInt},
		})
	}
}

// TestLastBranches: it is RFall only if the branch may not be taken.
func TestLastBranches(t *testing.T) {
	low, high, few := integer(3, 3), integer(9, 9), integer(0, 9)
	for _, c := range []struct {
		text string
		r    regs
		fine bool
	}{
		{"blt r1 r2 0", regs{1: low, 2: high}, true},
		{"blt r1 r2 0", regs{1: few, 2: high}, false},
		{"blt r1 r2 0", regs{1: high, 2: low}, false},
		{"bge r1 r2 0", regs{1: high, 2: low}, true},
		{"bge r1 r2 0", regs{1: few, 2: low}, false},
		{"beq r1 r2 0", regs{1: low, 2: low}, true},
		{"beq r1 r2 0", regs{1: few, 2: low}, false},
		{"bne r1 r2 0", regs{1: low, 2: high}, true},
		{"bne r1 r2 0", regs{1: few, 2: high}, false},
		{"bge r1 r1 2", regs{1: low}, true},
		{"bge r1 r1 2", regs{1: few}, false},
	} {
		want := refused(api.RFall)
		if c.fine {
			want = api.Step{Next: []api.Succ{succ(inst(c.text).Imm, c.r)}}
		}
		checkStep(t, "10.4: the last one, "+c.text, asLast(c.text, c.r), want)
	}
}

func TestCodeCapabilities(t *testing.T) {
	for to := range size {
		i := api.Inst{Op: api.CPC, A: 3, Imm: to}
		checkStep(t, "10.4: CPC", transfer.Do(yard(i), inner, at, ahead(nil)), api.Step{Next: []api.Succ{succ(at+1, regs{3: codeCap(uint64(to))})}})
	}
	checkStep(t, "10.4: CPC, the last one", asLast("cpc r1 0", nil), refused(api.RFall))
	// Where the gate leads to another compartment the addresses are others.
	m := yard(inst("cpc r1 0"))
	m.Comps[0].Code = []api.Inst{inst("cpc r1 2"), inst("ret"), inst("ret")}
	want := capability(api.CodeBase, api.CodeBase+24, api.CodeBase+16, api.CodeBase+16, api.Exec, 0)
	checkStep(t, "10.4: CPC of another compartment", transfer.Do(m, 2, 0, ahead(nil)), api.Step{Next: []api.Succ{succ(1, regs{1: want})}})
}

func TestJumpsByCapability(t *testing.T) {
	for to := range uint64(size) {
		r := regs{1: codeCap(to)}
		want := api.Step{Verdict: api.Goes, Value: to, Next: []api.Succ{succ(int(to), r)}}
		checkStep(t, "10.4: JC", do("jc r1", r), want)
		m := yard(inst("jc r1"))
		m.Comps[1].Code[size-1] = inst("jc r1")
		checkStep(t, "10.4: JC, the last one", transfer.Do(m, inner, size-1, ahead(r)), want)
	}
	more := but(codeCap(4), func(r *api.RType) { r.May = api.AllPerms })
	checkStep(t, "10.4: JC with more permissions", do("jc r1", regs{1: more}), api.Step{Verdict: api.Goes, Value: 4, Next: []api.Succ{succ(4, regs{1: more})}})

	change := func(change func(r *api.RType)) regs { return regs{1: but(codeCap(4), change)} }
	far := uint64(base + size*api.Width)
	checkRefusals(t, "10.4", []refusal{
		{"jc r1", nil, api.RCap},
		{"jc r1", regs{1: nothing()}, api.RCap},
		{"jc r1", change(func(r *api.RType) { r.Seal = 1 }), api.RSeal},
		{"jc r1", change(func(r *api.RType) { r.Seal = -1 }), api.RSeal},
		{"jc r1", change(func(r *api.RType) { r.Must = 0 }), api.RPerm},
		{"jc r1", change(func(r *api.RType) { r.Must, r.May = api.AllPerms&^api.Exec, api.AllPerms }), api.RPerm},
		{"jc r1", change(func(r *api.RType) { r.Base = s(base-8, base) }), api.RTarget},
		{"jc r1", change(func(r *api.RType) { r.Base = s(base, base+8) }), api.RTarget},
		{"jc r1", change(func(r *api.RType) { r.Base = one(base - 8) }), api.RTarget},
		{"jc r1", change(func(r *api.RType) { r.Base = one(api.CodeBase) }), api.RTarget},
		{"jc r1", change(func(r *api.RType) { r.End = s(far-8, far) }), api.RTarget},
		{"jc r1", change(func(r *api.RType) { r.End = s(far, far+8) }), api.RTarget},
		{"jc r1", change(func(r *api.RType) { r.End = one(far + 8) }), api.RTarget},
		{"jc r1", change(func(r *api.RType) { r.Point = s(base, base+8) }), api.RTarget},
		{"jc r1", change(func(r *api.RType) { r.Point = s(base+8, base+9) }), api.RTarget},
		{"jc r1", change(func(r *api.RType) { r.Point = one(base + 4) }), api.RTarget},
		{"jc r1", change(func(r *api.RType) { r.Point = one(base + 9) }), api.RTarget},
		{"jc r1", change(func(r *api.RType) { r.Point = one(base - 8) }), api.RTarget},
		{"jc r1", change(func(r *api.RType) { r.Point = one(base - 1) }), api.RTarget},
		{"jc r1", change(func(r *api.RType) { r.Point = one(far) }), api.RTarget},
		{"jc r1", change(func(r *api.RType) { r.Point = one(far - 1) }), api.RTarget},
		{"jc r1", change(func(r *api.RType) { r.Point = one(0) }), api.RTarget},
		{"jc r1", change(func(r *api.RType) { r.Point = one(top - 7) }), api.RTarget},
		{"jc r1", change(func(r *api.RType) { r.Point = one(api.CodeBase) }), api.RTarget},
		// The first Reason counts.
		{"jc r8", regs{8: capability(0, 32, 0, 0, rw, 3)}, api.RSeal},
		{"jc r8", nil, api.RPerm},
		{"jc r1", change(func(r *api.RType) { r.Seal, r.Must, r.Point = 1, 0, one(1) }), api.RSeal},
		{"jc r1", change(func(r *api.RType) { r.Must, r.Point = 0, one(1) }), api.RPerm},
	})
	// A capability for another compartment's code.
	m := yard(inst("jc r1"))
	m.Comps[0].Code = []api.Inst{inst("jc r1"), inst("ret"), inst("ret"), inst("ret"), inst("ret"), inst("ret")}
	checkStep(t, "10.4: JC to another compartment", transfer.Do(m, 0, 0, ahead(regs{1: codeCap(1)})), refused(api.RTarget))
}

func TestEnds(t *testing.T) {
	for _, c := range []struct {
		text string
		r    regs
	}{{"halt r1", nil}, {"halt r1", regs{1: integer(0, top)}}, {"trap 0", nil}, {"trap 255", regs{0: nothing()}}} {
		checkStep(t, "10.4: "+c.text, do(c.text, c.r), api.Step{})
		checkStep(t, "10.4: "+c.text+", the last one", asLast(c.text, c.r), api.Step{})
	}
	checkRefusals(t, "10.4", []refusal{
		{"halt r8", nil, api.RInt},
		{"halt r1", regs{1: nothing()}, api.RInt},
	})
}

func TestCalls(t *testing.T) {
	second := capability(8, 16, 3, 9, 0, 2)
	arg := capability(0, 32, 4, 16, rw, 0)
	r := regs{1: integer(5, 5), 2: arg, 3: root(), 15: nothing()}
	checkStep(t, "10.4: CALL", do("call 2", r), api.Step{Next: []api.Succ{succ(at+1, with(with(r, 1, second), 2, integer(0, top)))}})
	checkStep(t, "10.4: CALL without anything", do("call 0", regs{1: nothing()}), api.Step{Next: []api.Succ{succ(at+1, regs{1: nothing()})}})
	checkStep(t, "10.4: CALL, the last one", asLast("call 2", r), refused(api.RFall))
	checkRefusals(t, "10.4", []refusal{
		{"call 2", nil, api.RArgs},
		{"call 2", with(r, 1, root()), api.RArgs},
		{"call 2", with(r, 1, nothing()), api.RArgs},
		{"call 2", with(r, 2, integer(0, 9)), api.RArgs},
		{"call 2", with(r, 2, nothing()), api.RArgs},
		{"call 2", with(r, 2, capability(0, 32, 4, 17, rw, 0)), api.RArgs},
		{"call 2", with(r, 2, capability(0, 31, 4, 16, rw, 0)), api.RArgs},
		{"call 2", with(r, 2, capability(0, 32, 4, 16, api.Load, 0)), api.RArgs},
		{"call 2", with(r, 2, sealed(arg, -1)), api.RArgs},
		{"call 2", with(r, 2, sealed(arg, 1)), api.RArgs},
	})
}

func TestReturns(t *testing.T) {
	second := capability(8, 16, 4, 4, 0, 2)
	r := regs{1: integer(5, 5), 2: second, 3: nothing()}
	checkStep(t, "10.4: RET", do("ret", r), api.Step{})
	checkStep(t, "10.4: RET, the last one", asLast("ret", r), api.Step{})
	checkRefusals(t, "10.4", []refusal{
		{"ret", nil, api.RResult},
		{"ret", with(r, 1, root()), api.RResult},
		{"ret", with(r, 1, nothing()), api.RResult},
		{"ret", with(r, 2, sealed(second, 0)), api.RResult},
		{"ret", with(r, 2, capability(8, 16, 2, 4, 0, 2)), api.RResult},
		{"ret", with(r, 2, capability(8, 16, 4, 10, 0, 2)), api.RResult},
	})
	// The results of the gate at hand, whichever leads into the compartment.
	m := yard(inst("ret"))
	m.Gates = append(m.Gates, api.Gate{Comp: 1}, api.Gate{Comp: 1, Results: []api.Type{secondSlot()}})
	checkStep(t, "10.4: RET without results", transfer.Do(m, 3, at, ahead(nil)), api.Step{})
	checkStep(t, "10.4: RET by another gate", transfer.Do(m, 4, at, ahead(regs{1: second})), api.Step{})
	checkStep(t, "10.4: RET by another gate", transfer.Do(m, 4, at, ahead(r)), refused(api.RResult))
}

// TestManyArgumentsAndResults: more than there are registers are never sure; but as results of a call they are laid as far as there are.
func TestManyArgumentsAndResults(t *testing.T) {
	all := regs{}
	for k := range api.Regs {
		all[k] = integer(7, 7)
	}
	for _, n := range []int{0, 1, 7, 14, 15, 16, 17, 40} {
		m := yard(inst("call 2"))
		m.Gates[2] = api.Gate{Args: make([]api.Type, n)}
		want := api.Step{Next: []api.Succ{succ(at+1, all)}}
		if n > 15 {
			want = refused(api.RArgs)
		}
		checkStep(t, "10.4: CALL with many arguments", transfer.Do(m, inner, at, ahead(all)), want)

		m.Gates[2] = api.Gate{Results: make([]api.Type, n)}
		behind := regs{0: all[0]}
		for k := 1; k < api.Regs; k++ {
			behind[k] = all[k]
			if k <= n {
				behind[k] = integer(0, top)
			}
		}
		checkStep(t, "10.4: CALL with many results", transfer.Do(m, inner, at, ahead(all)), api.Step{Next: []api.Succ{succ(at+1, behind)}})

		m = yard(inst("ret"))
		m.Gates[inner].Results = make([]api.Type, n)
		want = api.Step{}
		if n > 15 {
			want = refused(api.RResult)
		}
		checkStep(t, "10.4: RET with many results", transfer.Do(m, inner, at, ahead(all)), want)
	}
	m := yard(inst("call 2"))
	m.Gates[2] = api.Gate{Results: []api.Type{{Cap: true, Lo: 1}, {Seal: 99}}}
	checkStep(t, "10.4: CALL with results that can't be", transfer.Do(m, inner, at, ahead(all)), api.Step{Next: []api.Succ{succ(at+1, with(with(all, 1, nothing()), 2, integer(0, top)))}})
}

// TestEachRegisterOfACall: one that is not sure is enough.
func TestEachRegisterOfACall(t *testing.T) {
	all := regs{}
	for k := range api.Regs {
		all[k] = integer(7, 7)
	}
	for k := range api.Regs {
		m := yard(inst("call 2"))
		m.Gates[2] = api.Gate{Args: make([]api.Type, 15)}
		m.Gates[inner].Results = make([]api.Type, 15)
		m.Comps[1].Code[0] = inst("ret")
		call, ret := transfer.Do(m, inner, at, ahead(with(all, k, root()))), transfer.Do(m, inner, 0, ahead(with(all, k, root())))
		if (call.Reason == api.RArgs) != (k > 0) || (ret.Reason == api.RResult) != (k > 0) {
			t.Errorf("10.4: with r%d not sure: CALL %+v, RET %+v", k, call, ret)
		}
	}
}
