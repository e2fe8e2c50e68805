package transfer_test

import (
	"math"
	"testing"

	"paddock/api"
	"paddock/instr"
	"paddock/transfer"
)

// TestNotLive: ahead of all else, whatever the rest is.
func TestNotLive(t *testing.T) {
	m := yard(inst("halt r8"))
	dead := ahead(nil)
	dead.Live = false
	for _, st := range []api.State{{}, dead} {
		checkStep(t, "10.2: not Live", transfer.Do(m, inner, at, st), api.Step{})
		checkStep(t, "10.2: not Live, no such gate", transfer.Do(m, 9, at, st), api.Step{})
		checkStep(t, "10.2: not Live, no such instruction", transfer.Do(m, inner, -1, st), api.Step{})
		checkStep(t, "10.2: not Live, no program", transfer.Do(api.Image{}, 0, 0, st), api.Step{})
		checkStep(t, "10.2: not Live, no instruction", transfer.Do(yard(api.Inst{Op: 14}), inner, at, st), api.Step{})
	}
}

func TestNotThere(t *testing.T) {
	m := yard(inst("out r1"))
	want := refused(api.RTarget)
	for _, n := range []int{-1, 3, 4, math.MaxInt, math.MinInt} {
		checkStep(t, "10.2: no such gate", transfer.Do(m, n, at, ahead(nil)), want)
	}
	for _, n := range []int{-1, size, size + 1, math.MaxInt, math.MinInt} {
		checkStep(t, "10.2: no such instruction", transfer.Do(m, inner, n, ahead(nil)), want)
	}
	for _, n := range []int{-1, 2, 3, math.MaxInt, math.MinInt} {
		m.Gates[inner].Comp = n
		checkStep(t, "10.2: no such compartment", transfer.Do(m, inner, at, ahead(nil)), want)
	}
	checkStep(t, "10.2: an instruction of another compartment", transfer.Do(yard(inst("out r1")), 0, at, ahead(nil)), want)
	checkStep(t, "10.2: an empty program", transfer.Do(api.Image{}, 0, 0, ahead(nil)), want)
	checkStep(t, "10.2: no code", transfer.Do(api.Image{Comps: []api.Comp{{}}, Gates: []api.Gate{{}}}, 0, 0, ahead(nil)), want)
}

// TestNotRight: an instruction that chapter 3 does not let be; RTarget comes ahead of what the tables ask.
func TestNotRight(t *testing.T) {
	for op := range 256 {
		if instr.Name(api.Op(op)) == "" {
			checkStep(t, "10.2: no operation", transfer.Do(yard(api.Inst{Op: api.Op(op)}), inner, at, ahead(nil)), refused(api.RTarget))
		}
	}
	for _, i := range []api.Inst{
		{Op: api.ADD, A: 16}, {Op: api.ADD, B: -1}, {Op: api.ADD, C: 16}, {Op: api.ADD, Imm: 1},
		{Op: api.MOV, C: 1}, {Op: api.RET, A: 1}, {Op: api.HALT, A: 8, B: 1},
		{Op: api.LI, Imm: 1 << 31}, {Op: api.LI, Imm: -1<<31 - 1}, {Op: api.LI, Imm: math.MinInt},
		{Op: api.GLT, Imm: -1}, {Op: api.GLT, C: 256}, {Op: api.GTAG, C: -1}, {Op: api.GSEAL, A: 8, Imm: 16}, {Op: api.GPERM, A: 8, Imm: 128}, {Op: api.GIN, A: 8, Imm: 65537},
		{Op: api.TRAP, Imm: 256}, {Op: api.CSETBI, A: 1, B: 8, Imm: -1}, {Op: api.CANDP, A: 1, B: 8, Imm: 128},
		{Op: api.JMP, Imm: -1}, {Op: api.CALL, Imm: -1}, {Op: api.LB, A: 1, B: 1, C: 1}, {Op: api.JC, A: 1, Imm: 3},
		{Op: api.OUT, A: math.MaxInt}, {Op: api.OUT, A: math.MinInt},
	} {
		checkStep(t, "10.2: an instruction that is not right", transfer.Do(yard(i), inner, at, ahead(nil)), refused(api.RTarget))
	}
}

// TestNotNamed: what an instruction names must be there; whether that is right is not asked.
func TestNotNamed(t *testing.T) {
	for _, to := range []int{size, size + 1, math.MaxInt32} {
		for _, i := range []api.Inst{{Op: api.JMP}, {Op: api.BEQ}, {Op: api.BNE}, {Op: api.BLT}, {Op: api.BGE}, {Op: api.CPC}, {Op: api.BEQ, A: 8}, {Op: api.BNE, A: 8, B: 8}} {
			i.Imm = to
			checkStep(t, "10.2: a target that is not there", transfer.Do(yard(i), inner, at, ahead(nil)), refused(api.RTarget))
		}
	}
	for _, i := range []api.Inst{{Op: api.JMP, Imm: size - 1}, {Op: api.BEQ, Imm: size - 1}, {Op: api.CPC, Imm: size - 1}} {
		if got := transfer.Do(yard(i), inner, at, ahead(nil)); got.Reason != api.Fine {
			t.Errorf("10.2: %v to the last one: %+v", i, got)
		}
	}
	for _, to := range []int{3, 4, math.MaxInt32} {
		checkStep(t, "10.2: a gate that is not there", transfer.Do(yard(api.Inst{Op: api.CALL, Imm: to}), inner, at, ahead(nil)), refused(api.RTarget))
	}
	m := yard(inst("call 2"))
	m.Gates[2] = api.Gate{Comp: 99, Entry: -5}
	checkStep(t, "10.2: a gate that is not right", transfer.Do(m, inner, at, ahead(nil)), api.Step{Next: []api.Succ{succ(at+1, nil)}})
	// The number of a target counts for instructions alone, that of a gate for gates.
	m = yard(inst("jmp 5"))
	m.Gates = m.Gates[:2]
	checkStep(t, "10.2: a target above the gates", transfer.Do(m, inner, at, ahead(nil)), api.Step{Next: []api.Succ{succ(5, nil)}})
	m = yard(inst("li r1 999"))
	checkStep(t, "10.2: a number that names nothing", transfer.Do(m, inner, at, ahead(nil)), api.Step{Next: []api.Succ{succ(at+1, regs{1: integer(999, 999)})}})
}

// TestRestIsNotAsked: of a program that is not right.
func TestRestIsNotAsked(t *testing.T) {
	m := yard(inst("out r1"))
	m.Depth = -4
	m.Regions = append(m.Regions, api.Region{Base: 3, Len: 1, Data: "too long"})
	m.Comps[0].Code[0] = api.Inst{Op: 14}
	m.Comps[1].Code[at+1] = api.Inst{Op: 14, A: 99}
	m.Comps[1].Roots = append(m.Comps[1].Roots, api.Root{Reg: 99})
	m.Gates[0].Comp = 7
	m.Gates[inner].Entry = 99
	m.Gates[inner].Args = []api.Type{{Seal: 99}}
	checkStep(t, "10.2: a program that is not right", transfer.Do(m, inner, at, ahead(nil)), api.Step{Next: []api.Succ{succ(at+1, nil)}})
}

// wrongOnes are not rightly built.
func wrongOnes() []api.RType {
	return []api.RType{
		{Kind: 3}, {Kind: -1}, {N: one(1)}, {Seal: -1},
		integer(9, 3), integer(top, 0),
		but(integer(3, 5), func(r *api.RType) { r.Seal = 1 }),
		but(integer(3, 5), func(r *api.RType) { r.May = 1 }),
		but(integer(3, 5), func(r *api.RType) { r.Point = s(0, 1) }),
		but(root(), func(r *api.RType) { r.N = one(1) }),
		but(root(), func(r *api.RType) { r.Base = s(1, 0) }),
		but(root(), func(r *api.RType) { r.End = s(33, 32) }),
		but(root(), func(r *api.RType) { r.Point = s(1, 0) }),
		but(root(), func(r *api.RType) { r.Must = api.AllPerms }),
		but(root(), func(r *api.RType) { r.May = 255 }),
		but(root(), func(r *api.RType) { r.Seal = -2 }),
		but(root(), func(r *api.RType) { r.Seal = 16 }),
	}
}

// TestNotRightlyBuilt: counts as Any where it is looked at, and is Any in what is next.
func TestNotRightlyBuilt(t *testing.T) {
	for _, w := range wrongOnes() {
		any := regs{5: nothing()}
		for _, c := range []refusal{
			{"out r5", nil, api.RInt}, {"add r1 r5 r2", nil, api.RInt}, {"add r1 r2 r5", nil, api.RInt}, {"beq r5 r1 1", nil, api.RInt}, {"beq r1 r5 1", nil, api.RInt},
			{"halt r5", nil, api.RInt}, {"jc r5", nil, api.RCap}, {"cinci r1 r5 0", nil, api.RCap}, {"lb r1 r5 0", nil, api.RCap}, {"sb r5 r8 0", nil, api.RInt},
			{"ctag r1 r5", nil, api.RMeta}, {"csame r1 r5 r2", nil, api.RMeta}, {"csame r1 r2 r5", nil, api.RMeta}, {"gtag r5 0", nil, api.RGuard}, {"glt r5 9 0", nil, api.RInt}, {"gseal r5 0 0", nil, api.RCap},
		} {
			checkRefusals(t, "10.2", []refusal{{c.text, regs{5: w}, c.why}})
		}
		for text, next := range map[string][]api.Succ{
			"li r1 7":       {succ(at+1, with(any, 1, integer(7, 7)))},
			"mov r1 r5":     {succ(at+1, with(any, 1, nothing()))},
			"li r5 7":       {succ(at+1, regs{5: integer(7, 7)})},
			"out r1":        {succ(at+1, any)},
			"jmp 0":         {succ(0, any)},
			"beq r1 r2 4":   {succ(at+1, any), succ(4, with(any, 2, integer(0, 1)))},
			"beq r1 r2 3":   {succ(at+1, any)},
			"glt r2 1 0":    {succ(at+1, with(any, 2, integer(0, 0)))},
			"trap 3":        nil,
			"sb r1 r8 0":    {succ(at+1, any)},
			"cinci r1 r8 1": {succ(at+1, with(any, 1, capability(0, 32, 1, 1, rw, 0)))},
		} {
			checkStep(t, "10.2: "+text, do(text, regs{5: w}), api.Step{Next: next})
		}
		checkStep(t, "10.2: a guard that holds", do("gtag r8 0", regs{5: w}), api.Step{Verdict: api.Holds, Next: []api.Succ{succ(at+1, any)}})
		checkStep(t, "10.2: JC", do("jc r1", regs{5: w, 1: codeCap(4)}), api.Step{Verdict: api.Goes, Value: 4, Next: []api.Succ{succ(4, with(any, 1, codeCap(4)))}})
		checkStep(t, "10.2: CALL", do("call 2", regs{5: w, 2: root()}), api.Step{Next: []api.Succ{succ(at+1, with(with(any, 1, capability(8, 16, 3, 9, 0, 2)), 2, integer(0, top)))}})
	}
}

// TestAllRegisters: what is next has each register as it was, whichever is A.
func TestAllRegisters(t *testing.T) {
	for k := range api.Regs {
		i := api.Inst{Op: api.LI, A: k, Imm: 77}
		checkStep(t, "10.2: each register", transfer.Do(yard(i), inner, at, ahead(nil)), api.Step{Next: []api.Succ{succ(at+1, regs{k: integer(77, 77)})}})
		i = api.Inst{Op: api.MOV, A: k, B: 15 - k}
		checkStep(t, "10.2: each register", transfer.Do(yard(i), inner, at, ahead(nil)), api.Step{Next: []api.Succ{succ(at+1, regs{k: ahead(nil).Regs[15-k]})}})
	}
}

// TestEachPlace: what is next hangs on where the instruction stands; behind the last one there is nothing.
func TestEachPlace(t *testing.T) {
	m := yard(inst("out r1"))
	for pc := range m.Comps[1].Code {
		m.Comps[1].Code[pc] = inst("out r1")
	}
	for pc := range size {
		want := api.Step{Next: []api.Succ{succ(pc+1, nil)}}
		if pc == size-1 {
			want = refused(api.RFall)
		}
		checkStep(t, "10.2: what is next", transfer.Do(m, inner, pc, ahead(nil)), want)
	}
}
