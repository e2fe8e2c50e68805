package transfer_test

import (
	"testing"

	"paddock/api"
	"paddock/capmachine"
	"paddock/image"
	"paddock/instr"
	"paddock/regtype"
	"paddock/transfer"
)

// pool are the capabilities of which roots are made: the one with the number k lies in the register 8 + k.
func pool() []api.Cap {
	return []api.Cap{
		{End: 32, Cursor: 8, Perms: rw},
		{Base: 48, End: 80, Cursor: 48, Perms: api.LoadCap | api.StoreCap},
		{Base: 1, End: 16, Cursor: 5, Perms: api.Seal | api.Unseal},
		{End: 32, Cursor: 4, Perms: rw, Seal: 5},
		{End: 1 << 32, Cursor: 80, Perms: api.AllPerms &^ api.Exec},
		{Base: 8, End: 16, Cursor: 4, Seal: 2},
		{Base: 48, End: 80, Cursor: 64, Perms: api.LoadCap | api.StoreCap},
		{End: 32, Cursor: 0, Perms: rw},
	}
}

// program is a right program in which much goes on: three compartments with roots of the pool, the yard's regions, gates of which some take capabilities.
func (d dice) program() api.Image {
	m := yard(api.Inst{Op: api.RET})
	m.Depth = 3
	m.Regions[2].Slots[1].Cursor = 4
	m.Gates = []api.Gate{
		{Comp: 0, Args: []api.Type{{}, {}, {}}},
		{Comp: 1, Args: []api.Type{{}}, Results: []api.Type{{}, firstSlot()}},
		{Comp: 2, Args: []api.Type{firstSlot(), {}}, Results: []api.Type{{}}},
		{Comp: 1, Results: []api.Type{secondSlot()}},
	}
	m.Comps = nil
	for range 3 {
		var roots []api.Root
		for k, c := range pool() {
			if !d.rarely() {
				roots = append(roots, api.Root{Reg: 8 + k, Cap: c})
			}
		}
		m.Comps = append(m.Comps, api.Comp{Roots: roots, Code: d.row(m.Gates)})
	}
	return m
}

// row is code in which what must go together stands together, often.
func (d dice) row(gates []api.Gate) []api.Inst {
	const length = 14
	all := ops()
	var l []api.Inst
	for len(l) < length {
		i := d.inst(all[d.IntN(len(all))], length, len(gates))
		switch {
		case i.Op == api.CALL:
			l = append(l, d.handed(gates[i.Imm].Args)...)
		case i.Op == api.RET:
			l = append(l, d.handed(of(d, gates[1:]...).Results)...)
		case i.Op == api.JC && !d.rarely():
			l = append(l, api.Inst{Op: api.CPC, A: i.A, Imm: d.IntN(length)})
		case i.Op == api.CSAME && d.IntN(2) == 0:
			i.C = i.B
		case i.Op == api.CUNSEAL && d.IntN(2) == 0:
			i.B, i.C = 11, 10
		case i.Op == api.CSEAL && d.IntN(2) == 0:
			i.C = 10
		case (i.Op == api.LC || i.Op == api.SC) && d.IntN(2) == 0:
			i.A, i.B, i.Imm = 15, 9, 0
		}
		l = append(l, i)
	}
	return l[:length]
}

// handed lays in the first registers what is of these types.
func (d dice) handed(types []api.Type) []api.Inst {
	var l []api.Inst
	for k, t := range types {
		i := api.Inst{Op: api.LI, A: 1 + k, Imm: d.IntN(100)}
		switch {
		case t == firstSlot():
			i = api.Inst{Op: api.MOV, A: 1 + k, B: of(d, 8, 15)}
		case t == secondSlot():
			i = api.Inst{Op: api.MOV, A: 1 + k, B: 13}
		}
		l = append(l, i)
	}
	return l
}

// around is a span that has n, and few others, mostly.
func (d dice) around(n uint64) api.Span {
	switch d.IntN(12) {
	case 0:
		return s(0, n)
	case 1:
		return s(n, top)
	case 2, 3:
		return s(n-min(n, d.Uint64N(9)), n+min(top-n, d.Uint64N(9)))
	}
	return one(n)
}

// allowing is something that is known of a value: all of it, some, or nothing.
func (d dice) allowing(v api.Value) api.RType {
	if d.rarely() {
		return nothing()
	}
	if !v.Tag {
		n := d.around(v.N)
		return integer(n.Lo, n.Hi)
	}
	r := regtype.Exact(v.C)
	if d.IntN(3) == 0 {
		r.Base, r.End, r.Point = d.around(v.C.Base), d.around(v.C.End), d.around(v.C.Cursor)
	}
	switch d.IntN(8) {
	case 0:
		r.Must &= d.perms()
	case 1:
		r.May |= d.perms()
	case 2:
		r.Seal = -1
	}
	return r
}

func (d dice) knownOf(values [api.Regs]api.Value) api.State {
	st := api.State{Live: true}
	for k, v := range values {
		st.Regs[k] = d.allowing(v)
	}
	return st
}

// slotHolds tells whether what an LC reads is of its slot's type.
func slotHolds(m api.Image, x *capmachine.Machine, i api.Inst, before api.Snap) bool {
	at := before.Regs[i.B].C.Cursor + uint64(i.Imm)
	v, _ := x.Memory().LoadCap(at)
	for _, r := range m.Regions {
		for k, l := range r.Slots {
			if r.Base+uint64(k)*api.Granule == at {
				return image.Fits(v, l.Type)
			}
		}
	}
	return false
}

// tally counts what came about, by operation.
type tally struct {
	fine, refused, faults map[api.Op]int
	verdicts              map[api.Op]map[api.Verdict]int
}

// TestNothingIsMissed: the first machine's steps, with registers of which more or less is known.
func TestNothingIsMissed(t *testing.T) {
	c := tally{map[api.Op]int{}, map[api.Op]int{}, map[api.Op]int{}, map[api.Op]map[api.Verdict]int{}}
	for seed := range uint64(12000) {
		d := rolled(seed)
		m := d.program()
		x, e := capmachine.New(m, 0, []uint64{d.Uint64N(40), d.number(), d.number()}, []uint64{d.Uint64N(40), d.number(), 3})
		if e != api.OK {
			t.Fatalf("a program of the dice may not be: %d", e)
		}
		follow(t, d, m, x, c)
		if t.Failed() {
			t.Fatalf("the program %d", seed)
		}
	}
	c.check(t)
}

// follow steps along, and asks ahead of each step. Callers' states are kept until they are come back to.
func follow(t *testing.T, d dice, m api.Image, x *capmachine.Machine, c tally) {
	t.Helper()
	var callers []api.Step
	for range 40 {
		before := x.Snap()
		code := m.Comps[m.Gates[before.Gate].Comp].Code
		st := d.knownOf(before.Regs)
		if !regtype.Allows(st, before.Regs) {
			t.Fatalf("the dice made %+v, which does not allow %+v", st, before.Regs)
		}
		step := transfer.Do(m, before.Gate, before.Pc, st)
		if before.Pc == len(code) {
			checkStep(t, "10.2: behind the code", step, refused(api.RTarget))
			return
		}
		i := code[before.Pc]
		trusted := step.Reason == api.Fine && (i.Op != api.LC || slotHolds(m, x, i, before))
		o := x.Step()
		now := x.Snap()
		c.count(i.Op, step, o)
		if trusted {
			checkMissed(t, i, step, o, now)
		}
		switch {
		case o.End != api.Running:
			return
		case i.Op == api.CALL:
			callers = append(callers, step)
			if step.Reason == api.Fine && !regtype.Allows(transfer.Entry(m, i.Imm), now.Regs) {
				t.Errorf("10.1: Entry(%d) does not allow %+v", i.Imm, now.Regs)
			}
		case i.Op == api.RET:
			call := callers[len(callers)-1]
			callers = callers[:len(callers)-1]
			if call.Reason == api.Fine && !isAllowed(now, call.Next) {
				t.Errorf("10.4: behind a CALL %+v, want one of %+v", now, call.Next)
			}
		}
	}
}

// checkMissed holds what a step was said to do against what it did.
func checkMissed(t *testing.T, i api.Inst, step api.Step, o api.Outcome, now api.Snap) {
	t.Helper()
	wrong := func(what string) { t.Errorf("10.9: %s: %+v, said %+v, came %+v, %+v", what, i, step, o, now) }
	goesOn := o.End == api.Running
	if o.End == api.Faulted {
		wrong("it faults")
	}
	if goesOn && i.Op != api.CALL && i.Op != api.RET && !isAllowed(now, step.Next) {
		wrong("what came is missed")
	}
	switch step.Verdict {
	case api.Known:
		if now.Regs[i.A] != (api.Value{N: step.Value}) {
			wrong("Known")
		}
	case api.Holds:
		if !goesOn {
			wrong("Holds")
		}
	case api.Fails:
		if o.End != api.Guarded || o.Value != uint64(i.C) {
			wrong("Fails")
		}
	case api.Goes:
		if uint64(now.Pc) != step.Value {
			wrong("Goes")
		}
	}
}

func isAllowed(now api.Snap, l []api.Succ) bool {
	for _, n := range l {
		if n.Pc == now.Pc && regtype.Allows(n.State, now.Regs) {
			return true
		}
	}
	return false
}

func (c tally) count(op api.Op, step api.Step, o api.Outcome) {
	if c.verdicts[op] == nil {
		c.verdicts[op] = map[api.Verdict]int{}
	}
	if step.Reason != api.Fine {
		c.refused[op]++
	} else {
		c.fine[op]++
		c.verdicts[op][step.Verdict]++
	}
	if o.End == api.Faulted {
		c.faults[op]++
	}
}

func (c tally) check(t *testing.T) {
	t.Helper()
	for _, op := range ops() {
		if c.fine[op] < 20 || len(rows()[op]) > 0 && (c.refused[op] < 20 || c.faults[op] < 20 && op != api.LI) {
			t.Errorf("10.9: %s: %d without a Reason, %d with one, %d faults: the programs are too narrow", instr.Name(op), c.fine[op], c.refused[op], c.faults[op])
		}
		for _, v := range verdicts(op) {
			if c.verdicts[op][v] < 5 {
				t.Errorf("10.9: %s had the Verdict %d %d times: the programs are too narrow", instr.Name(op), v, c.verdicts[op][v])
			}
		}
	}
}
