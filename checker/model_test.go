package checker_test

import (
	"slices"
	"strings"
	"testing"

	"paddock/api"
	"paddock/capword"
	"paddock/checker"
	"paddock/flow"
	"paddock/image"
	"paddock/instr"
	"paddock/regtype"
	"paddock/transfer"
)

// modelRow is 11.1 of one gate, as its words stand, one thing behind the other; widened is how often a state was widened.
func modelRow(m api.Image, gate int) (states []api.State, steps int, widened int) {
	n := len(m.Comps[m.Gates[gate].Comp].Code)
	states = make([]api.State, n)
	changes, toDo := make([]int, n), make([]bool, n)
	entry := m.Gates[gate].Entry
	states[entry], toDo[entry] = transfer.Entry(m, gate), true
	for slices.Contains(toDo, true) {
		pc := slices.Index(toDo, true)
		toDo[pc] = false
		steps++
		step := transfer.Do(m, gate, pc, states[pc])
		if step.Reason != api.Fine {
			continue
		}
		for _, s := range step.Next {
			now := s.State
			if states[s.Pc].Live {
				now = regtype.JoinState(states[s.Pc], s.State)
				if s.Pc <= pc && changes[s.Pc] >= 4 {
					now = regtype.WidenState(states[s.Pc], now)
					widened++
				}
			}
			if now != states[s.Pc] {
				states[s.Pc], toDo[s.Pc] = now, true
				changes[s.Pc]++
			}
		}
	}
	return states, steps, widened
}

// modelCheck is what Check must tell of a right program.
func modelCheck(m api.Image) (r api.Report, widened int) {
	for gate := range m.Gates {
		states, steps, w := modelRow(m, gate)
		r.Table = append(r.Table, states)
		r.Steps += steps
		widened += w
	}
	for gate, row := range r.Table {
		for pc, s := range row {
			if why := transfer.Do(m, gate, pc, s).Reason; s.Live && why != api.Fine {
				r.Reason, r.Gate, r.Pc = why, gate, pc
				return r, widened
			}
		}
	}
	return r, widened
}

// modelSettled is 11.3 of a right program.
func modelSettled(m api.Image, t api.Table) bool {
	if len(t) != len(m.Gates) {
		return false
	}
	for gate, g := range m.Gates {
		row := t[gate]
		if len(row) != len(m.Comps[g.Comp].Code) {
			return false
		}
		if !row[g.Entry].Live || !regtype.UnderState(transfer.Entry(m, gate), row[g.Entry]) {
			return false
		}
		for pc, s := range row {
			if !s.Live {
				continue
			}
			step := transfer.Do(m, gate, pc, s)
			if step.Reason != api.Fine {
				continue
			}
			for _, n := range step.Next {
				if !row[n.Pc].Live || !regtype.UnderState(n.State, row[n.Pc]) {
					return false
				}
			}
		}
	}
	return true
}

// modelMost is 11.4 of a right program, with heads by chapter 8's words.
func modelMost(m api.Image) int {
	sum := 0
	for _, g := range m.Gates {
		code := m.Comps[g.Comp].Code
		heads := map[int]int{}
		for pc := range code {
			for _, n := range flow.Next(code, pc) {
				if n <= pc {
					heads[n] = 1
				}
			}
		}
		sum += len(code) + len(code)*len(heads)*per
	}
	return sum
}

// forms are the rows of 11.5's table: of each operation what its registers must be, in order: n an integer, d one of r6 and r7, x a known one.
func forms() map[string][]string {
	l := map[string][]string{"mov": {"nn", "dx"}}
	for form, names := range map[string]string{
		"n":   "li in halt out glt gge",
		"nnn": "add sub mul and or xor shl shr slt seq",
		"nn":  "addi beq bne blt bge",
		"":    "jmp trap call ret",
		"dx":  "cinci csetbi candp lc",
		"dxx": "cseal cunseal",
		"nx":  "caddr cbase cend cperm csealed ctag lb lw sb sw",
		"nxx": "csame",
		"xx":  "sc",
		"x":   "gtag gin gperm gseal",
	} {
		for _, name := range strings.Fields(names) {
			l[name] = append(l[name], form)
		}
	}
	return l
}

// modelFits tells whether the registers of an instruction are as a form asks.
func modelFits(i api.Inst, form string, known map[int]api.Cap) bool {
	for k, letter := range form {
		reg := []int{i.A, i.B, i.C}[k]
		_, is := known[reg]
		if letter == 'n' && reg > 5 || letter == 'd' && reg != 6 && reg != 7 || letter == 'x' && !is {
			return false
		}
	}
	return true
}

// modelLaid is what an instruction of the right form lays in r6 or r7, if it does; and whether it may stand there.
func modelLaid(m api.Image, i api.Inst, known map[int]api.Cap) (c api.Cap, lays bool, ok bool) {
	b := known[i.B]
	var f api.Fault
	switch i.Op {
	case api.MOV:
		return b, i.A > 5, true
	case api.CINCI:
		c, f = capword.Inc(b, uint64(i.Imm))
	case api.CSETBI:
		c, f = capword.SetBounds(b, uint64(i.Imm))
	case api.CANDP:
		c, f = capword.AndPerm(b, api.Perms(i.Imm))
	case api.CSEAL:
		c, f = capword.SealBy(b, known[i.C])
	case api.CUNSEAL:
		c, f = capword.UnsealBy(b, known[i.C])
	case api.LB, api.LW, api.SB, api.SW, api.LC, api.SC:
		return modelTouch(m, i, b, known[i.A])
	default:
		return c, false, true
	}
	return c, true, f == api.NoFault
}

// modelTouch is the rows of memory.
func modelTouch(m api.Image, i api.Inst, b api.Cap, a api.Cap) (c api.Cap, lays bool, ok bool) {
	size := map[api.Op]uint64{api.LB: 1, api.SB: 1, api.LW: 8, api.SW: 8, api.LC: 16, api.SC: 16}[i.Op]
	p := map[api.Op]api.Perms{api.LB: api.Load, api.LW: api.Load, api.SB: api.Store, api.SW: api.Store, api.LC: api.LoadCap, api.SC: api.StoreCap}[i.Op]
	if b.Cursor < b.Base || b.Cursor > b.End || capword.Access(b, uint64(i.Imm), size, p) != api.NoFault {
		return c, false, false
	}
	at := b.Cursor + uint64(i.Imm)
	for _, r := range m.Regions {
		if at < r.Base || at+size > r.Base+r.Len {
			continue
		}
		if size < 16 {
			return c, false, r.Slots == nil
		}
		if r.Slots == nil || at%16 != 0 {
			return c, false, false
		}
		t := r.Slots[(at-r.Base)/16].Type
		if i.Op == api.SC {
			return c, false, image.Fits(api.Value{Tag: true, C: a}, t)
		}
		return image.CapOf(t, t.Hi), true, t.Lo == t.Hi
	}
	return c, false, false
}

// modelStatic is 11.5 of a right program.
func modelStatic(m api.Image) bool {
	for _, g := range m.Gates {
		if len(g.Args) > 5 || len(g.Results) > 5 || slices.ContainsFunc(append(slices.Clone(g.Args), g.Results...), func(t api.Type) bool { return t.Cap }) {
			return false
		}
	}
	for comp, c := range m.Comps {
		if !slices.Contains([]string{"jmp", "halt", "trap", "ret"}, instr.Name(c.Code[len(c.Code)-1].Op)) {
			return false
		}
		begins := map[int]int{}
		for gate := range m.Gates {
			if m.Gates[gate].Comp == comp {
				begins[m.Gates[gate].Entry] = 1
			}
		}
		for pc := range c.Code {
			next := flow.Next(c.Code, pc)
			if strings.Contains(" jmp beq bne blt bge jc halt trap ret ", " "+instr.Name(c.Code[pc].Op)+" ") {
				next = append(next, pc+1)
			} else {
				next = nil
			}
			for _, n := range next {
				begins[n] = 1
			}
		}
		if !modelCode(m, c, begins) {
			return false
		}
	}
	return true
}

// modelCode goes through code, in which rows begin somewhere.
func modelCode(m api.Image, c api.Comp, begins map[int]int) bool {
	known := map[int]api.Cap{}
	for _, r := range c.Roots {
		known[r.Reg] = r.Cap
	}
	table := forms()
	for pc, i := range c.Code {
		if begins[pc] == 1 {
			delete(known, 6)
			delete(known, 7)
		}
		isForm := func(form string) bool { return modelFits(i, form, known) }
		if !slices.ContainsFunc(table[instr.Name(i.Op)], isForm) {
			return false
		}
		made, lays, ok := modelLaid(m, i, known)
		if !ok {
			return false
		}
		if lays {
			known[i.A] = made
		}
	}
	return true
}

// checkModel holds all calls against the models, of a program that is right.
func checkModel(t *testing.T, m api.Image) (api.Report, int) {
	t.Helper()
	if e := image.Right(m); e != api.OK {
		t.Fatalf("the dice made a program that may not be: %d", e)
	}
	got := checker.Check(m)
	want, widened := modelCheck(m)
	if !sameReport(got, want) {
		t.Errorf("11.1: %d at %d, %d, behind %d steps, want %d at %d, %d, behind %d, or another table", got.Reason, got.Gate, got.Pc, got.Steps, want.Reason, want.Gate, want.Pc, want.Steps)
	}
	if n := checker.Most(m); n != modelMost(m) || got.Steps > n {
		t.Errorf("11.4: Most is %d, want %d; there were %d steps", n, modelMost(m), got.Steps)
	}
	if is := checker.Static(m); is != modelStatic(m) || is && got.Reason != api.Fine {
		t.Errorf("11.5: Static is %t, want %t; the Reason is %d", is, modelStatic(m), got.Reason)
	}
	if !checker.Settled(m, got.Table) {
		t.Errorf("11.6: the table is not settled")
	}
	return got, widened
}

// TestModels: programs in which anything may stand, those that are taken, those of the static part; and each of them with something changed.
func TestModels(t *testing.T) {
	t.Parallel()
	count := struct{ taken, static, widened, refused int }{}
	try := func(m api.Image) {
		r, widened := checkModel(t, m)
		if widened > 0 {
			count.widened++
		}
		if r.Reason != api.Fine {
			count.refused++
		}
		switch {
		case checker.Static(m):
			count.static++
		case r.Reason == api.Fine:
			count.taken++
		}
	}
	for seed := range uint64(400) {
		d := rolled(seed)
		var m api.Image
		switch seed % 10 {
		case 0:
			m = d.taken()
		case 1, 2:
			m = d.static()
		default:
			m = d.any()
		}
		try(m)
		for range 2 {
			takeBack := d.changed(&m)
			try(m)
			takeBack()
		}
		if t.Failed() {
			t.Fatalf("the program %d", seed)
		}
	}
	if count.taken < 100 || count.static < 100 || count.widened < 100 || count.refused < 300 {
		t.Errorf("the programs are too narrow: %+v", count)
	}
}

// TestSettledModel: tables that Check tells, with something changed in some places.
func TestSettledModel(t *testing.T) {
	t.Parallel()
	settled, not := 0, 0
	for seed := range uint64(100) {
		d := rolled(seed)
		m := d.any()
		if seed%3 == 0 {
			m = d.kept(false, 10, isTaken)
		}
		table := checker.Check(m).Table
		for range 40 {
			x := copied(table)
			for range 1 + d.IntN(3) {
				gate := d.IntN(len(x))
				d.unsettle(&x[gate][d.IntN(len(x[gate]))])
			}
			want := modelSettled(m, x)
			if got := checker.Settled(m, x); got != want {
				t.Fatalf("11.3: the program %d: Settled is %t", seed, got)
			}
			if want {
				settled++
			} else {
				not++
			}
		}
	}
	if settled < 500 || not < 500 {
		t.Errorf("the tables are too narrow: %d settled, %d not", settled, not)
	}
}

// unsettle changes something in a state.
func (d dice) unsettle(s *api.State) {
	switch d.IntN(8) {
	case 0:
		s.Live = !s.Live
	case 1:
		*s = api.State{}
	case 2:
		s.Regs = [api.Regs]api.RType{}
	}
	r := &s.Regs[d.IntN(api.Regs)]
	switch d.IntN(9) {
	case 0:
		*r = nothing()
	case 1:
		r.N.Hi += of(d, 1, top)
	case 2:
		r.N.Lo, r.N.Hi = 0, top
	case 3:
		r.Point = api.Span{Hi: top}
	case 4:
		r.Must &= api.Load
	case 5:
		r.May |= api.Seal
	case 6:
		r.Seal = of(d, -1, 0, 3)
	case 7:
		*r = of(d, one(0), anyInteger(), pointer(8, 8), api.RType{Kind: 9})
	}
}

// TestStaticRegisters: each operation with all registers that it can name, where r6 is known, and r7 and r12 are not.
func TestStaticRegisters(t *testing.T) {
	m := parse(t, field("mov r6 r13;trap 0;jmp 0;ret"))
	kept := map[api.Op]int{}
	for _, op := range ops() {
		shape := instr.Shape(op)
		for n := range 16 * 16 * 16 {
			i := api.Inst{Op: op}
			i.A, i.B, i.C = n%16, n/16%16, n/256
			if used := strings.Count(shape, "r"); used < 3 && n >= []int{1, 16, 256}[used] {
				break
			}
			m.Comps[0].Code[1] = i
			got, want := checker.Static(m), modelStatic(m)
			if got != want {
				t.Errorf("11.5: Static is %t with %+v", got, i)
			}
			if want {
				kept[op]++
			}
		}
	}
	for name := range forms() {
		if kept[instr.Find(name)] == 0 {
			t.Errorf("11.5: %s is never of the static part here", name)
		}
	}
	if len(kept) != len(forms()) {
		t.Errorf("11.5: %d operations are of the static part, want %d", len(kept), len(forms()))
	}
}
