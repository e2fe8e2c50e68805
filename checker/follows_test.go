package checker_test

import (
	"strings"
	"testing"

	"paddock/api"
	"paddock/capmachine"
	"paddock/checker"
	"paddock/instr"
	"paddock/regtype"
	"paddock/transfer"
)

// seen counts what came about in runs.
type seen struct {
	ops    map[api.Op]int // steps that were done
	ends   map[api.End]int
	faults map[api.Fault]int // at instructions with a Reason
}

func unseen() seen {
	return seen{map[api.Op]int{}, map[api.End]int{}, map[api.Fault]int{}}
}

// follow runs a program on the first machine, from a gate of its first compartment, and holds what the registers hold against the table; until an instruction is at hand whose state has a Reason.
func (c seen) follow(t *testing.T, d dice, m api.Image, r api.Report) {
	t.Helper()
	gate := of(d, 0, len(m.Gates)-1)
	x, e := capmachine.New(m, gate, d.numbers(len(m.Gates[gate].Args)), d.numbers(d.IntN(60)))
	if e != api.OK {
		t.Fatalf("a program of the dice may not be run: %d", e)
	}
	for range 150 {
		now := x.Snap()
		s := r.Table[now.Gate][now.Pc]
		if !regtype.Allows(s, now.Regs) {
			t.Fatalf("11.6: at %d of the gate %d: %+v is not allowed by %+v", now.Pc, now.Gate, now.Regs, s)
		}
		why := transfer.Do(m, now.Gate, now.Pc, s).Reason
		if why != api.Fine && r.Reason == api.Fine {
			t.Fatalf("11.2: %d at %d of the gate %d, though it is taken", why, now.Pc, now.Gate)
		}
		o := x.Step()
		if why != api.Fine {
			c.faults[o.Fault]++
			return
		}
		c.ops[m.Comps[m.Gates[now.Gate].Comp].Code[now.Pc].Op]++
		if o.End == api.Faulted {
			t.Fatalf("11.6: the fault %d at %d of the gate %d", o.Fault, o.Pc, o.Gate)
		}
		if o.End != api.Running {
			c.ends[o.End]++
			return
		}
	}
	c.ends[api.Spent]++
}

// memory lays other bytes in a program's regions.
func (d dice) memory(m *api.Image) {
	for k := range m.Regions {
		if m.Regions[k].Slots == nil {
			l := make([]byte, m.Regions[k].Len)
			for n := range l {
				l[n] = of(d, 1, 7, 31, 255, byte(d.IntN(255)+1))
			}
			m.Regions[k].Data = string(l)
		}
	}
	for k, s := range m.Regions[2].Slots {
		m.Regions[2].Slots[k].Cursor = s.Type.Lo + d.Uint64N(s.Type.Hi-s.Type.Lo+1)
	}
}

// TestTakenNeverFaults: whatever the arguments, inputs and memory are.
func TestTakenNeverFaults(t *testing.T) {
	t.Parallel()
	c := unseen()
	for seed := range uint64(110) {
		d := rolled(seed)
		m := d.taken()
		r := checker.Check(m)
		if r.Reason != api.Fine {
			t.Fatalf("the program %d is refused", seed)
		}
		for range 24 {
			d.memory(&m)
			c.follow(t, d, m, r)
		}
	}
	c.check(t)
	for _, end := range []api.End{api.Halted, api.Guarded, api.Trapped, api.Spent, api.Overflow, api.Starved} {
		if c.ends[end] < 5 {
			t.Errorf("11.6: the end %d came %d times: the programs are too narrow", end, c.ends[end])
		}
	}
}

// check looks whether each operation was done often enough.
func (c seen) check(t *testing.T) {
	t.Helper()
	for _, op := range ops() {
		if c.ops[op] < 20 {
			t.Errorf("11.6: %s was done %d times: the programs are too narrow", instr.Name(op), c.ops[op])
		}
	}
}

// TestRefusedUntilThere: a program that is not taken does no harm until an instruction with a Reason is done; and there are some that fault there.
func TestRefusedUntilThere(t *testing.T) {
	t.Parallel()
	c := unseen()
	for seed := range uint64(250) {
		d := rolled(1000 + seed)
		m := d.kept(false, 6, isTaken)
		for isTaken(m) {
			d.changed(&m)
		}
		r := checker.Check(m)
		for range 6 {
			d.memory(&m)
			c.follow(t, d, m, r)
		}
	}
	for f := api.NoFault; f <= api.FBounds; f++ {
		if c.faults[f] < 5 {
			t.Errorf("11.6: the fault %d came %d times: the programs are too narrow", f, c.faults[f])
		}
	}
}

// TestEachReasonFaults: of each Reason but those that are of knowing too little there is a program that runs up to that instruction, and faults there.
func TestEachReasonFaults(t *testing.T) {
	want := map[api.Reason]api.Fault{
		api.RInt: api.FInt, api.RCap: api.FTag, api.RSeal: api.FSeal, api.RPerm: api.FPerm, api.RBounds: api.FBounds, api.ROtype: api.FOtype,
		api.RAlign: api.FAlign, api.RTarget: api.FTarget, api.RArgs: api.FGate, api.RResult: api.FGate,
		api.RSlot: api.NoFault, api.RBytes: api.NoFault, api.RMeta: api.NoFault, api.RGuard: api.NoFault, api.RFall: api.NoFault,
	}
	for why, text := range reasons() {
		_, code, _ := strings.Cut(text, " ")
		m := parse(t, corner(code))
		c := unseen()
		c.follow(t, rolled(1), m, checker.Check(m))
		if c.faults[want[why]] != 1 {
			t.Errorf("11.6: %q: %+v, want the fault %d", code, c.faults, want[why])
		}
	}
}

// TestStaticIsTaken: each program of the static part is, and never faults.
func TestStaticIsTaken(t *testing.T) {
	t.Parallel()
	c := unseen()
	for seed := range uint64(300) {
		d := rolled(2000 + seed)
		m := d.static()
		r := checker.Check(m)
		if r.Reason != api.Fine {
			t.Fatalf("11.6: the program %d of the static part is refused: %d at %d of the gate %d", seed, r.Reason, r.Pc, r.Gate)
		}
		for range 6 {
			d.memory(&m)
			c.follow(t, d, m, r)
		}
	}
	done := 0
	for name := range forms() {
		if c.ops[instr.Find(name)] >= 20 {
			done++
		}
	}
	if done < len(forms()) {
		t.Errorf("11.6: %d operations of %d were done often: the programs are too narrow", done, len(forms()))
	}
}

// long is a program as long as it may be, with rounds all over its code, and as many gates as there may be.
func (d dice) long() api.Image {
	var code []api.Inst
	for len(code) < api.MaxCode-1 {
		pc := len(code)
		i := of(d,
			api.Inst{Op: api.ADDI, A: d.IntN(8), B: d.IntN(8), Imm: d.IntN(5) - 2},
			api.Inst{Op: api.ADD, A: d.IntN(8), B: d.IntN(8), C: d.IntN(8)},
			api.Inst{Op: of(d, api.BEQ, api.BNE, api.BLT, api.BGE), A: d.IntN(8), B: d.IntN(8), Imm: d.IntN(api.MaxCode)},
			api.Inst{Op: of(d, api.BEQ, api.BNE, api.BLT, api.BGE), A: d.IntN(8), B: d.IntN(8), Imm: max(0, pc-d.IntN(20))},
			api.Inst{Op: api.CINCI, A: 8 + d.IntN(8), B: 8 + d.IntN(8), Imm: d.IntN(100) - 50},
			api.Inst{Op: api.CANDP, A: 8 + d.IntN(8), B: 8 + d.IntN(8), Imm: 127 ^ 1<<d.IntN(7)},
			api.Inst{Op: api.MOV, A: 8 + d.IntN(8), B: 8 + d.IntN(8)})
		code = append(code, i)
	}
	m := api.Image{Depth: 1, Comps: []api.Comp{{Code: append(code, api.Inst{Op: api.RET})}}}
	for k := range 8 {
		m.Comps[0].Roots = append(m.Comps[0].Roots, api.Root{Reg: 8 + k, Cap: api.Cap{End: 100, Cursor: uint64(k), Perms: api.AllPerms &^ api.Exec}})
	}
	for range api.MaxGates {
		m.Gates = append(m.Gates, api.Gate{Entry: d.IntN(9), Args: make([]api.Type, d.IntN(api.MaxArgs+1))})
	}
	return m
}

// TestLongPrograms: Check ends within Most, and its table is settled, however many rounds there are.
func TestLongPrograms(t *testing.T) {
	t.Parallel()
	steps, widened := 0, 0
	for seed := range uint64(6) {
		r, w := checkModel(t, rolled(seed).long())
		steps += r.Steps
		widened += w
	}
	if steps < 20000 || widened < 1000 {
		t.Errorf("%d steps, and %d times something was widened: the programs are too narrow", steps, widened)
	}
}
