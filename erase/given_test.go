package erase_test

import (
	"strconv"
	"testing"

	"paddock/api"
	"paddock/checker"
	"paddock/erase"
	"paddock/image"
)

// given is a program that is taken, in which much may be changed that no instruction speaks of.
func given(t testing.TB) (api.Image, api.Report) {
	t.Helper()
	m := parse(t, "depth 2;region 0 32 bytes #01;region 64 16 slots;slot cap 0 32 0 31 rw 0 at 3;comp;root r8 0 32 0 rw 0;root r9 0 9 1 - 0;li r1 1;out r1;halt r1;comp;in r2;ret;gate g 0 0 ->;gate h 1 0 int ->")
	return m, checker.Check(m)
}

// TestNotRight: with a table that would do for the program.
func TestNotRight(t *testing.T) {
	_, r := given(t)
	for what, change := range map[string]func(m *api.Image){
		"depth 0":                  func(m *api.Image) { m.Depth = 0 },
		"depth 17":                 func(m *api.Image) { m.Depth = 17 },
		"a region twice":           func(m *api.Image) { m.Regions[1] = m.Regions[0] },
		"a region beyond memory":   func(m *api.Image) { m.Regions[0].Len = 1 << 20 },
		"data that ends with 0":    func(m *api.Image) { m.Regions[0].Data = "a\x00" },
		"a slot of integers":       func(m *api.Image) { m.Regions[1].Slots[0] = api.Slot{} },
		"a slot's cursor outside":  func(m *api.Image) { m.Regions[1].Slots[0].Cursor = 32 },
		"a root in r7":             func(m *api.Image) { m.Comps[0].Roots[0].Reg = 7 },
		"a root in r16":            func(m *api.Image) { m.Comps[0].Roots[1].Reg = 16 },
		"a root below 0":           func(m *api.Image) { m.Comps[0].Roots[0].Reg = -1 },
		"a root with Exec":         func(m *api.Image) { m.Comps[0].Roots[0].Cap.Perms |= api.Exec },
		"roots the other way":      func(m *api.Image) { l := m.Comps[0].Roots; l[0], l[1] = l[1], l[0] },
		"no operation":             func(m *api.Image) { m.Comps[0].Code[0].Op = 14 },
		"a field too many":         func(m *api.Image) { m.Comps[0].Code[1].Imm = 1 },
		"no register":              func(m *api.Image) { m.Comps[1].Code[0].A = 16 },
		"a jump behind":            func(m *api.Image) { m.Comps[1].Code[1] = api.Inst{Op: api.JMP, Imm: 2} },
		"a call of no gate":        func(m *api.Image) { m.Comps[1].Code[1] = api.Inst{Op: api.CALL, Imm: 2} },
		"an instruction too many":  func(m *api.Image) { m.Comps[0].Code = append(m.Comps[0].Code, api.Inst{}) },
		"a compartment too many":   func(m *api.Image) { m.Comps = append(m.Comps, api.Comp{}) },
		"a compartment too few":    func(m *api.Image) { m.Comps = m.Comps[:1] },
		"a gate of no compartment": func(m *api.Image) { m.Gates[1].Comp = 2 },
		"an entry behind":          func(m *api.Image) { m.Gates[1].Entry = 2 },
		"an entry below 0":         func(m *api.Image) { m.Gates[1].Entry = -1 },
		"a type that is not right": func(m *api.Image) { m.Gates[1].Args[0].Hi = 1 },
		"too many arguments":       func(m *api.Image) { m.Gates[1].Args = make([]api.Type, 8) },
		"too many results":         func(m *api.Image) { m.Gates[0].Results = make([]api.Type, 8) },
	} {
		m, _ := given(t)
		change(&m)
		if image.Right(m) == api.OK {
			t.Errorf("%s: it is right", what)
		}
		checkNone(t, what, m, r)
		checkNone(t, what+", and what Check says of it", m, checker.Check(m))
	}
	checkNone(t, "nothing at all", api.Image{}, api.Report{})
	checkNone(t, "nothing, with an empty table", api.Image{}, api.Report{Table: api.Table{}})
	m, _ := given(t)
	m.Gates = nil
	checkNone(t, "no gates", m, api.Report{Table: api.Table{}})
	m, _ = given(t)
	m.Comps[0].Code = nil
	checkNone(t, "no code", m, api.Report{Table: api.Table{nil, r.Table[1]}})
}

// TestReports: of one the Reason and the table are asked, and nothing else.
func TestReports(t *testing.T) {
	m, r := given(t)
	want := taken(t, "12.2", m)
	reasons := []api.Reason{-1, 16, 99, -1 << 63}
	for why := api.RInt; why <= api.RFall; why++ {
		reasons = append(reasons, why)
	}
	for _, why := range reasons {
		other := r
		other.Reason = why
		checkNone(t, "the Reason "+strconv.Itoa(int(why)), m, other)
	}
	for _, n := range []int{-1, 1, 2, 1 << 40} {
		p, ok := erase.Program(m, api.Report{Gate: n, Pc: n, Steps: n, Table: r.Table})
		if !ok || !sameProgram(p, want) {
			t.Errorf("12.2: with Gate, Pc and Steps %d there is another Program, or none: %t", n, ok)
		}
	}
	refused := parse(t, alone("li r1 1;lb r1 r1 0;ret"))
	checkNone(t, "a program that is refused", refused, checker.Check(refused))
}

// TestShapes: a row for each gate, a state for each instruction.
func TestShapes(t *testing.T) {
	m, r := given(t)
	for what, change := range map[string]func(x api.Table) api.Table{
		"no table":                    func(x api.Table) api.Table { return nil },
		"no rows":                     func(x api.Table) api.Table { return x[:0] },
		"a row too few":               func(x api.Table) api.Table { return x[:1] },
		"the first row too few":       func(x api.Table) api.Table { return x[1:] },
		"a row too many":              func(x api.Table) api.Table { return append(x, x[0]) },
		"an empty row too many":       func(x api.Table) api.Table { return append(x, nil) },
		"rows the other way round":    func(x api.Table) api.Table { return api.Table{x[1], x[0]} },
		"a state too few":             func(x api.Table) api.Table { x[0] = x[0][:2]; return x },
		"a state too few, in the end": func(x api.Table) api.Table { x[1] = x[1][:1]; return x },
		"a state too many":            func(x api.Table) api.Table { x[0] = append(x[0], x[0][2]); return x },
		"an empty state too many":     func(x api.Table) api.Table { x[1] = append(x[1], api.State{}); return x },
		"an empty row":                func(x api.Table) api.Table { x[0] = nil; return x },
		"the last row empty":          func(x api.Table) api.Table { x[1] = nil; return x },
	} {
		checkNone(t, what, m, api.Report{Table: change(copied(r.Table))})
	}
	// What stands behind the lists is no part of them.
	x := copied(r.Table)
	x[0] = append(x[0], api.State{Live: true})[:3]
	if _, ok := erase.Program(m, api.Report{Table: append(x, nil)[:2]}); !ok {
		t.Errorf("12.2: with room behind the lists there is no Program")
	}
}

// TestNotSettled: an entry that is not there, or what comes of a state.
func TestNotSettled(t *testing.T) {
	m, r := given(t)
	for what, change := range map[string]func(x api.Table){
		"no state at all":              func(x api.Table) { x[0], x[1] = make([]api.State, 3), make([]api.State, 2) },
		"an entry that is not Live":    func(x api.Table) { x[0][0].Live = false },
		"the last entry is not Live":   func(x api.Table) { x[1][0] = api.State{} },
		"an argument is known":         func(x api.Table) { x[1][0].Regs[1] = integer(0, 9) },
		"a root is an integer":         func(x api.Table) { x[0][0].Regs[8] = integer(0, 0) },
		"what comes is not Live":       func(x api.Table) { x[0][1].Live = false },
		"what comes last is not Live":  func(x api.Table) { x[0][2] = api.State{} },
		"too much is known":            func(x api.Table) { x[0][2].Regs[1] = integer(0, 0) },
		"too much is known in the end": func(x api.Table) { x[1][1].Regs[2] = integer(0, top-1) },
		"less is known, and then more": func(x api.Table) { x[0][0].Regs[5] = anyInteger() },
	} {
		x := copied(r.Table)
		change(x)
		if checker.Settled(m, x) {
			t.Errorf("%s: it is settled", what)
		}
		checkNone(t, what, m, api.Report{Table: x})
	}
}

// TestSettledWithReasons: a table may be settled, and yet too little is known for an instruction, or it may never be right.
func TestSettledWithReasons(t *testing.T) {
	for _, code := range []string{"lb r1 r1 0;ret", "li r1 1", "add r3 r8 r1;ret", "jmp 2;ret;jc r8", "cinc r4 r8 r1;lb r3 r4 0;ret", "gtag r8 3;glt r8 1 1", "beq r1 r2 2;ret;csame r3 r8 r8"} {
		m := parse(t, alone(code))
		r := checker.Check(m)
		if r.Reason == api.Fine || !checker.Settled(m, r.Table) {
			t.Errorf("%s: it is taken, or its table is not settled", code)
		}
		r.Reason = api.Fine
		checkNone(t, code, m, r)
	}
	m, r := given(t)
	for what, change := range map[string]func(x api.Table){
		"nothing is known":            func(x api.Table) { unknown(x[0]); unknown(x[1]) },
		"nothing is known in one row": func(x api.Table) { unknown(x[0]) },
		"an integer is not known":     func(x api.Table) { x[0][2].Regs[1] = api.RType{} },
		"an empty span":               func(x api.Table) { x[0][2].Regs[1] = integer(2, 1) },
		"an integer with a seal":      func(x api.Table) { x[0][2].Regs[1].Seal = 1 },
	} {
		x := copied(r.Table)
		change(x)
		if !checker.Settled(m, x) {
			t.Errorf("%s: it is not settled", what)
		}
		checkNone(t, what, m, api.Report{Table: x})
	}
	// Nobody comes there, but it is said to be Live.
	m = parse(t, "depth 1;comp;ret;out r1;gate f 0 0 ->;gate g 0 0 int ->")
	x := checker.Check(m).Table
	x[1][1] = api.State{Live: true}
	checkNone(t, "a Live state that nobody comes to, with RInt", m, api.Report{Table: x})
	x[1][1].Regs[1] = anyInteger()
	checkNone(t, "a Live state that nobody comes to, with RFall", m, api.Report{Table: x})
}

// unknown makes all states of a row Live, and nothing known in them.
func unknown(row []api.State) {
	for pc := range row {
		row[pc] = api.State{Live: true}
	}
}

// TestLessIsKnown: any table will do that is settled and has no Reasons; what the code becomes hangs on it alone.
func TestLessIsKnown(t *testing.T) {
	points := api.RType{Kind: api.ACap, End: api.Span{Lo: 64, Hi: 64}, Point: api.Span{Lo: 0, Hi: 63}, Must: rw, May: rw}
	either := integer(0, 1)
	for _, c := range []struct {
		code, most string
		change     func(row []api.State)
		less       string
	}{
		{"glt r3 1 9;ret", "fnop;fret", func(row []api.State) { row[0].Regs[3] = anyInteger() }, "fglt a3 c9 i1;fret"},
		{"gge r3 0 9;ret", "fnop;fret", func(row []api.State) { row[0].Regs[3] = anyInteger(); row[1].Regs[3] = anyInteger() }, "fnop;fret"},
		{"gge r3 2 9;ret", "fguard c9;ftrap", func(row []api.State) {
			row[0].Regs[3] = integer(0, 2)
			row[1] = row[0]
			row[1].Regs[3] = integer(2, 2)
		}, "fgge a3 c9 i2;fret"},
		{"csame r3 r8 r8;ret", "fli a3 i1;fret", func(row []api.State) {
			row[0].Regs[8], row[1].Regs[8], row[1].Regs[3] = points, points, either
		}, "fseq a3 b8 c8;fret"},
		{"beq r0 r3 2;ret;halt r0", "fbeq b3 i2;ftrap;fhalt", func(row []api.State) {
			row[0].Regs[3], row[2].Regs[3] = either, either
			row[1] = row[0]
		}, "fbeq b3 i2;fret;fhalt"},
		{"ret;li r1 5;ret", "fret;ftrap;ftrap", func(row []api.State) { unknown(row) }, "fret;fli a1 i5;fret"},
		{"ret;ctag r1 r2;ret", "fret;ftrap;ftrap", func(row []api.State) {
			unknown(row)
			row[1].Regs[2] = points
		}, "fret;fli a1 i1;fret"},
		{"out r2;ret", "fout a2;fret", func(row []api.State) { row[1] = api.State{Live: true, Regs: [api.Regs]api.RType{{Kind: 9}}} }, "fout a2;fret"},
		{"ret;ret", "fret;ftrap", func(row []api.State) { row[1] = api.State{Regs: row[0].Regs} }, "fret;ftrap"},
	} {
		m := parse(t, alone(c.code))
		r := checker.Check(m)
		checkCode(t, "12.4: "+c.code, taken(t, c.code, m).Code[0], bare(t, c.most))
		x := copied(r.Table)
		c.change(x[0])
		p, ok := erase.Program(m, api.Report{Table: x})
		if !ok {
			t.Errorf("12.2: %s: less is known, and there is no Program", c.code)
			continue
		}
		checkCode(t, "12.4: less is known: "+c.code, p.Code[0], bare(t, c.less))
	}
}
