package fastvm_test

import (
	"fmt"
	"testing"

	"paddock/api"
)

// deed is one instruction, done with some registers as they are told and all others as regs says: what it lays in a register, and where it goes (1, if 0 is told).
type deed struct {
	code string
	some map[int]uint64
	lays map[int]uint64
	to   int
}

// checkDeed does it as the first instruction of a row; all that the deed does not tell of must stay.
func checkDeed(t *testing.T, d deed) {
	t.Helper()
	x := begin(t, alone(t, with(d.some), d.code+";fnop;fnop;fnop"), 0, nil, []uint64{77, 78})
	want := lookAt(x)
	want.snap.Pc = max(d.to, 1)
	for reg, n := range d.lays {
		want.snap.Regs[reg] = n
	}
	what := fmt.Sprintf("13.3: %s with %v", d.code, d.some)
	checkOutcome(t, what, x.Step(), api.Outcome{Pc: want.snap.Pc})
	checkLook(t, what, x, want)
}

func TestNopLiMov(t *testing.T) {
	for _, d := range []deed{
		{code: "fnop"},
		{code: "fnop a1 b2 c3 i4"},
		{code: "fli a0 i5", lays: map[int]uint64{0: 5}},
		{code: "fli a15 b2 c3 i-1", lays: map[int]uint64{15: top}},
		{code: "fli a7", lays: map[int]uint64{7: 0}},
		{code: "fmov a1 b2 c3 i4", lays: map[int]uint64{1: 1200}},
		{code: "fmov a0 b15", lays: map[int]uint64{0: 2500}},
		{code: "fmov a9 b0", lays: map[int]uint64{9: 1000}},
		{code: "fmov a4 b4"},
		{code: "fmov a3 b5", some: map[int]uint64{5: top}, lays: map[int]uint64{3: top}},
	} {
		checkDeed(t, d)
	}
}

// TestOfTwo: what comes of two numbers. B and C are two registers, or one; A is another one, or one of these.
func TestOfTwo(t *testing.T) {
	for _, c := range []struct {
		op      string
		b, c, n uint64
	}{
		{"fadd", 2, 3, 5}, {"fadd", top, 1, 0}, {"fadd", top, top, top - 1}, {"fadd", 1 << 63, 1 << 63, 0}, {"fadd", 0, 0, 0},
		{"fsub", 7, 5, 2}, {"fsub", 5, 7, top - 1}, {"fsub", 0, 1, top}, {"fsub", 0, top, 1}, {"fsub", 9, 9, 0},
		{"fmul", 6, 7, 42}, {"fmul", top, top, 1}, {"fmul", 1 << 32, 1 << 32, 0}, {"fmul", top, 2, top - 1}, {"fmul", 0, top, 0}, {"fmul", 0x123456789, 0x100000001, 0x2345678a23456789},
		{"fand", 12, 10, 8}, {"fand", top, 1 << 63, 1 << 63}, {"fand", 0xf0, 0x0f, 0},
		{"for", 12, 10, 14}, {"for", 1, 1 << 63, 1<<63 + 1}, {"for", 0, 0, 0},
		{"fxor", 12, 10, 6}, {"fxor", top, 1, top - 1}, {"fxor", 5, 5, 0},
		{"fshl", 3, 0, 3}, {"fshl", 3, 1, 6}, {"fshl", 3, 63, 1 << 63}, {"fshl", 3, 64, 3}, {"fshl", 3, 65, 6}, {"fshl", 3, 127, 1 << 63}, {"fshl", 3, 128, 3}, {"fshl", 3, top, 1 << 63}, {"fshl", 3, 1 << 63, 3}, {"fshl", 3, 1<<32 + 2, 12},
		{"fshr", 1 << 63, 0, 1 << 63}, {"fshr", 1 << 63, 1, 1 << 62}, {"fshr", top, 63, 1}, {"fshr", top, 64, top}, {"fshr", top, 65, top >> 1}, {"fshr", top, 127, 1}, {"fshr", top, top, 1}, {"fshr", top, 1 << 32, top}, {"fshr", 6, 1<<63 + 1, 3},
		{"fslt", 1, 2, 1}, {"fslt", 2, 1, 0}, {"fslt", 2, 2, 0}, {"fslt", 1, top, 1}, {"fslt", top, 1, 0}, {"fslt", 1<<63 - 1, 1 << 63, 1}, {"fslt", 0, 0, 0}, {"fslt", top, top, 0},
		{"fseq", 2, 2, 1}, {"fseq", 2, 3, 0}, {"fseq", 3, 2, 0}, {"fseq", top, top, 1}, {"fseq", 0, 1 << 63, 0}, {"fseq", 1, 1<<32 + 1, 0}, {"fseq", 0, 0, 1},
	} {
		checkDeed(t, deed{code: c.op + " a1 b2 c3 i99", some: map[int]uint64{2: c.b, 3: c.c}, lays: map[int]uint64{1: c.n}})
		checkDeed(t, deed{code: c.op + " a4 b4 c5", some: map[int]uint64{4: c.b, 5: c.c}, lays: map[int]uint64{4: c.n}})
		checkDeed(t, deed{code: c.op + " a7 b6 c7", some: map[int]uint64{6: c.b, 7: c.c}, lays: map[int]uint64{7: c.n}})
		checkDeed(t, deed{code: c.op + " a15 b0 c14", some: map[int]uint64{0: c.b, 14: c.c}, lays: map[int]uint64{15: c.n}})
		if c.b == c.c {
			checkDeed(t, deed{code: c.op + " a0 b9 c9", some: map[int]uint64{9: c.b}, lays: map[int]uint64{0: c.n}})
			checkDeed(t, deed{code: c.op + " a9 b9 c9", some: map[int]uint64{9: c.b}, lays: map[int]uint64{9: c.n}})
		}
	}
}

func TestAddi(t *testing.T) {
	for _, d := range []deed{
		{code: "faddi a1 b2 c3 i4", lays: map[int]uint64{1: 1204}},
		{code: "faddi a1 b2 i-4", lays: map[int]uint64{1: 1196}},
		{code: "faddi a1 b2 i1", some: map[int]uint64{2: top}, lays: map[int]uint64{1: 0}},
		{code: "faddi a1 b2 i-1", some: map[int]uint64{2: 0}, lays: map[int]uint64{1: top}},
		{code: "faddi a0 b0 i1", lays: map[int]uint64{0: 1001}},
		{code: "faddi a15 b0", lays: map[int]uint64{15: 1000}},
	} {
		checkDeed(t, d)
	}
}

func TestBranches(t *testing.T) {
	for to := range 4 {
		checkGoes(t, fmt.Sprintf("fjmp a1 b2 c3 i%d", to), nil, to)
	}
	for _, c := range []struct {
		a, b           uint64
		eq, ne, lt, ge bool
	}{
		{a: 5, b: 5, eq: true, ge: true}, {a: 4, b: 5, ne: true, lt: true}, {a: 5, b: 4, ne: true, ge: true},
		{a: 0, b: top, ne: true, lt: true}, {a: top, b: 0, ne: true, ge: true}, {a: top, b: top, eq: true, ge: true},
		{a: 1<<63 - 1, b: 1 << 63, ne: true, lt: true}, {a: 1, b: 1<<32 + 1, ne: true, lt: true}, {a: 0, b: 0, eq: true, ge: true},
	} {
		for op, isTaken := range map[string]bool{"fbeq": c.eq, "fbne": c.ne, "fblt": c.lt, "fbge": c.ge} {
			for to := range 4 {
				want := 1
				if isTaken {
					want = to
				}
				checkGoes(t, fmt.Sprintf("%s a3 b9 c4 i%d", op, to), map[int]uint64{3: c.a, 9: c.b}, want)
				if c.a == c.b {
					checkGoes(t, fmt.Sprintf("%s a0 b0 i%d", op, to), map[int]uint64{0: c.a}, want)
				}
			}
		}
	}
}

// checkGoes does an instruction that changes nothing but what is at hand.
func checkGoes(t *testing.T, code string, some map[int]uint64, to int) {
	t.Helper()
	x := begin(t, alone(t, with(some), code+";fnop;fnop;fnop"), 0, nil, nil)
	want := lookAt(x)
	want.snap.Pc = to
	what := fmt.Sprintf("13.3: %s with %v", code, some)
	checkOutcome(t, what, x.Step(), api.Outcome{Pc: to})
	checkLook(t, what, x, want)
}

func TestGuards(t *testing.T) {
	for _, c := range []struct {
		a       uint64
		imm     int
		isBelow bool
	}{
		{0, 0, false}, {0, 1, true}, {1, 1, false}, {31, 32, true}, {32, 32, false}, {33, 32, false}, {top, 1, false}, {top, -1, false}, {top - 1, -1, true}, {1 << 63, 5, false}, {5, -1 << 63, true}, {1<<32 + 1, 2, false},
	} {
		for op, holds := range map[string]bool{"fglt": c.isBelow, "fgge": !c.isBelow} {
			for _, code := range []int{0, 9, 15, 16, 255} {
				text := fmt.Sprintf("%s a3 b2 c%d i%d", op, code, c.imm)
				if holds {
					checkGoes(t, text, map[int]uint64{3: c.a}, 1)
				} else {
					checkEnd(t, text, map[int]uint64{3: c.a}, api.Outcome{End: api.Guarded, Value: uint64(code)})
				}
			}
		}
	}
	for _, code := range []int{0, 1, 15, 16, 17, 254, 255} {
		checkEnd(t, fmt.Sprintf("fguard a1 b2 c%d i4", code), nil, api.Outcome{End: api.Guarded, Value: uint64(code)})
	}
}

// checkEnd does an instruction with which a run is over: nothing has changed, and nothing does any more.
func checkEnd(t *testing.T, code string, some map[int]uint64, want api.Outcome) {
	t.Helper()
	p := alone(t, with(some), "fout a1;fsw a1 b1;fin a6;"+code+";fin a5;fout a5;fhalt a5")
	x := begin(t, p, 0, nil, []uint64{77, 78})
	for range 3 {
		x.Step()
	}
	before := lookAt(x)
	want.Pc = 3
	what := fmt.Sprintf("%s with %v", code, some)
	checkOutcome(t, "13.3: "+what, x.Step(), want)
	checkLook(t, "13.3: "+what, x, before)
	checkOver(t, what, x, want)
}

func TestEnds(t *testing.T) {
	for _, c := range []struct {
		code string
		some map[int]uint64
		want api.Outcome
	}{
		{"fhalt a3 b1 c2 i9", nil, api.Outcome{End: api.Halted, Value: 1300}},
		{"fhalt", nil, api.Outcome{End: api.Halted, Value: 1000}},
		{"fhalt a15", map[int]uint64{15: top}, api.Outcome{End: api.Halted, Value: top}},
		{"fhalt a2", map[int]uint64{2: 0}, api.Outcome{End: api.Halted}},
		{"ftrap a3 b1 c2 i9", nil, api.Outcome{End: api.Trapped, Value: 9}},
		{"ftrap", nil, api.Outcome{End: api.Trapped}},
		{"ftrap i-1", nil, api.Outcome{End: api.Trapped, Value: top}},
		{"ftrap i256", nil, api.Outcome{End: api.Trapped, Value: 256}},
		{"fret a3 b1 c2 i9", nil, api.Outcome{End: api.Halted}},
	} {
		checkEnd(t, c.code, c.some, c.want)
	}
}

func TestIn(t *testing.T) {
	x := begin(t, alone(t, regs(), "fin a3 b1 c2 i9;fin a0;fin a3;fin a5"), 0, nil, []uint64{top, 0, 42})
	want := lookAt(x)
	for n, l := range []struct {
		reg int
		n   uint64
	}{{3, top}, {0, 0}, {3, 42}} {
		want.snap.Pc = n + 1
		want.snap.Regs[l.reg] = l.n
		checkOutcome(t, "13.3: FIN", x.Step(), api.Outcome{Pc: n + 1})
		checkLook(t, "13.3: FIN", x, want)
	}
	starved := api.Outcome{End: api.Starved, Pc: 3}
	checkOutcome(t, "13.3: FIN without an input", x.Step(), starved)
	checkLook(t, "13.3: FIN without an input", x, want)
	checkOver(t, "Starved", x, starved)
}

func TestOut(t *testing.T) {
	x := begin(t, alone(t, with(map[int]uint64{2: top}), "fout a3 b1 c2 i9;fout;fout a2;fout a3;fjmp"), 0, nil, nil)
	want := lookAt(x)
	for n, put := range []uint64{1300, 1000, top, 1300} {
		want.snap.Pc = n + 1
		want.out = append(want.out, put)
		checkOutcome(t, "13.3: FOUT", x.Step(), api.Outcome{Pc: n + 1})
		checkLook(t, "13.3: FOUT", x, want)
	}
}

// TestBehindTheRow: what is behind a row's end is no instruction, come to it how one may.
func TestBehindTheRow(t *testing.T) {
	for _, last := range []string{"fnop", "fli a1 i2", "fadd a1 b2 c3", "fbne a1 b1", "fout a1", "fin a1", "flb a1 b2", "fsc a1 b2", "fglt a0 i-1"} {
		x := begin(t, alone(t, regs(), "fjmp i2;ftrap;"+last), 0, nil, []uint64{5})
		x.Step()
		checkOutcome(t, "13.3: the last one, "+last, x.Step(), api.Outcome{Pc: 3})
		before := lookAt(x)
		want := api.Outcome{End: api.Faulted, Fault: api.FTarget, Pc: 3}
		checkOutcome(t, "13.3: behind the row, "+last, x.Step(), want)
		checkLook(t, "13.3: behind the row, "+last, x, before)
		checkOver(t, "behind the row, "+last, x, want)
	}
}

// TestRowsAreTheGates: of two gates with rows of other lengths each has its own.
func TestRowsAreTheGates(t *testing.T) {
	p := api.Program{Code: [][]api.FInst{bare(t, "fcall i1;fnop;ftrap i3"), bare(t, "fnop")}, Gates: []api.FEntry{{}, {}}, Depth: 1}
	x := begin(t, p, 0, nil, nil)
	x.Step()
	checkOutcome(t, "13.3: the row of the gate at hand", x.Step(), api.Outcome{Gate: 1, Pc: 1})
	checkOutcome(t, "13.3: behind the row of the gate at hand", x.Step(), api.Outcome{End: api.Faulted, Fault: api.FTarget, Gate: 1, Pc: 1})
	checkOutcome(t, "13.3: the gate's own row", begin(t, p, 1, nil, nil).Step(), api.Outcome{Gate: 1, Pc: 1})
}
