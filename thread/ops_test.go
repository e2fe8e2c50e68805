package thread_test

import (
	"fmt"
	"strconv"
	"strings"
	"testing"

	"paddock/api"
)

// showing puts out all registers, one behind the other, and ends.
func showing() string {
	var s strings.Builder
	for k := range api.Regs {
		s.WriteString("fout a" + strconv.Itoa(k) + ";")
	}
	return s.String() + "ftrap i77"
}

// shown is what showing puts out, where the registers hold what regs says, but for some.
func shown(some map[int]uint64) []uint64 {
	l := with(some)
	return l[:]
}

// deed is one instruction, done with some registers as they are told and all others as regs says: what it lays in a register.
type deed struct {
	code string
	some map[int]uint64
	lays map[int]uint64
}

// checkDeed does it as the first instruction of a row, in the midst of one, and as the last one; all that the deed does not tell of must stay.
func checkDeed(t *testing.T, d deed) {
	t.Helper()
	lays := map[int]uint64{}
	for _, l := range []map[int]uint64{d.some, d.lays} {
		for k, n := range l {
			lays[k] = n
		}
	}
	for _, form := range []string{"%s;", "fnop;%s;fnop;", "fnop;%s;fjmp i3;", "fjmp i1;%s;fjmp i3;"} {
		code := fmt.Sprintf(form, d.code) + showing()
		want := api.Result{Outcome: ended(api.Trapped, 77, strings.Count(code, ";")), Out: shown(lays)}
		checkRun(t, fmt.Sprintf("%s with %v", code, d.some), alone(t, with(d.some), code), []uint64{5}, 99, want)
	}
}

func TestNopLiMov(t *testing.T) {
	for _, d := range []deed{
		{code: "fnop"},
		{code: "fnop a1 b2 c3 i4"},
		{code: "fli a0 i5", lays: map[int]uint64{0: 5}},
		{code: "fli a15 b2 c3 i-1", lays: map[int]uint64{15: top}},
		{code: "fli a7", lays: map[int]uint64{7: 0}},
		{code: "fmov a1 b2 c3 i4", lays: map[int]uint64{1: 1200}},
		{code: "fmov a0 b15", lays: map[int]uint64{0: 2500}},
		{code: "fmov a9 b0", lays: map[int]uint64{9: 1000}},
		{code: "fmov a4 b4"},
		{code: "fmov a3 b5", some: map[int]uint64{5: top}, lays: map[int]uint64{3: top}},
		{code: "faddi a1 b2 c3 i4", lays: map[int]uint64{1: 1204}},
		{code: "faddi a1 b2 i-4", lays: map[int]uint64{1: 1196}},
		{code: "faddi a1 b2 i1", some: map[int]uint64{2: top}, lays: map[int]uint64{1: 0}},
		{code: "faddi a1 b2 i-1", some: map[int]uint64{2: 0}, lays: map[int]uint64{1: top}},
		{code: "faddi a0 b0 i1", lays: map[int]uint64{0: 1001}},
		{code: "faddi a15 b0", lays: map[int]uint64{15: 1000}},
	} {
		checkDeed(t, d)
	}
}

// TestOfTwo: what comes of two numbers. B and C are two registers, or one; A is another one, or one of these.
func TestOfTwo(t *testing.T) {
	for _, c := range []struct {
		op      string
		b, c, n uint64
	}{
		{"fadd", 2, 3, 5}, {"fadd", top, 1, 0}, {"fadd", top, top, top - 1}, {"fadd", 1 << 63, 1 << 63, 0}, {"fadd", 0, 0, 0},
		{"fsub", 7, 5, 2}, {"fsub", 5, 7, top - 1}, {"fsub", 0, 1, top}, {"fsub", 0, top, 1}, {"fsub", 9, 9, 0},
		{"fmul", 6, 7, 42}, {"fmul", top, top, 1}, {"fmul", 1 << 32, 1 << 32, 0}, {"fmul", top, 2, top - 1}, {"fmul", 0, top, 0},
		{"fand", 12, 10, 8}, {"fand", top, 1 << 63, 1 << 63}, {"fand", 0xf0, 0x0f, 0},
		{"for", 12, 10, 14}, {"for", 1, 1 << 63, 1<<63 + 1}, {"for", 0, 0, 0},
		{"fxor", 12, 10, 6}, {"fxor", top, 1, top - 1}, {"fxor", 5, 5, 0},
		{"fshl", 3, 0, 3}, {"fshl", 3, 1, 6}, {"fshl", 3, 63, 1 << 63}, {"fshl", 3, 64, 3}, {"fshl", 3, 65, 6}, {"fshl", 3, 127, 1 << 63}, {"fshl", 3, top, 1 << 63}, {"fshl", 3, 1<<32 + 2, 12},
		{"fshr", 1 << 63, 0, 1 << 63}, {"fshr", 1 << 63, 1, 1 << 62}, {"fshr", top, 63, 1}, {"fshr", top, 64, top}, {"fshr", top, 65, top >> 1}, {"fshr", top, top, 1}, {"fshr", 6, 1<<63 + 1, 3},
		{"fslt", 1, 2, 1}, {"fslt", 2, 1, 0}, {"fslt", 2, 2, 0}, {"fslt", 1, top, 1}, {"fslt", top, 1, 0}, {"fslt", 1<<63 - 1, 1 << 63, 1},
		{"fseq", 2, 2, 1}, {"fseq", 2, 3, 0}, {"fseq", 3, 2, 0}, {"fseq", top, top, 1}, {"fseq", 0, 1 << 63, 0}, {"fseq", 1, 1<<32 + 1, 0}, {"fseq", 0, 0, 1},
	} {
		checkDeed(t, deed{c.op + " a1 b2 c3 i99", map[int]uint64{2: c.b, 3: c.c}, map[int]uint64{1: c.n}})
		checkDeed(t, deed{c.op + " a4 b4 c5", map[int]uint64{4: c.b, 5: c.c}, map[int]uint64{4: c.n}})
		checkDeed(t, deed{c.op + " a7 b6 c7", map[int]uint64{6: c.b, 7: c.c}, map[int]uint64{7: c.n}})
		checkDeed(t, deed{c.op + " a15 b0 c14", map[int]uint64{0: c.b, 14: c.c}, map[int]uint64{15: c.n}})
		if c.b == c.c {
			checkDeed(t, deed{c.op + " a9 b9 c9", map[int]uint64{9: c.b}, map[int]uint64{9: c.n}})
		}
	}
}

func TestInOut(t *testing.T) {
	checkDeed(t, deed{code: "fin a3 b1 c2 i9", lays: map[int]uint64{3: 5}})
	checkDeed(t, deed{code: "fin", lays: map[int]uint64{0: 5}})
	p := alone(t, with(map[int]uint64{2: top}), "fin a3;fout a3;fin a0 i7;fout a0;fin a3;fout a3;fout a2 b1 c5 i9;fout;fin a5")
	want := api.Result{Outcome: ended(api.Starved, 0, 8), Out: []uint64{top, 0, 42, top, 0}}
	checkRun(t, "FIN and FOUT", p, []uint64{top, 0, 42}, 99, want)
	want = api.Result{Outcome: ended(api.Starved, 0, 4), Out: []uint64{8, 9}}
	checkRun(t, "FIN and FOUT", p, []uint64{8, 9}, 99, want)
}

func TestLoads(t *testing.T) {
	memory := varied()
	for op, size := range map[string]int{"flb": 1, "flw": 8, "flc": 16} {
		last := api.MaxMem - size
		for _, addr := range []int{0, 1, 7, 8, 9, 1016, 1017, 1023, 1024, 4095, 40003, last - 1, last} {
			n := read(memory, addr, size)
			for _, imm := range []int{0, 1, 77, -1, -5000} {
				base := uint64(addr) - uint64(imm)
				for _, reg := range []int{0, 3, 9, 15} {
					d := deed{fmt.Sprintf("%s a%d b9 c4 i%d", op, reg, imm), map[int]uint64{9: base}, map[int]uint64{reg: n}}
					code := d.code + ";" + showing()
					lays := map[int]uint64{9: base}
					lays[reg] = n
					want := api.Result{Outcome: ended(api.Trapped, 77, 17), Out: shown(lays), Touches: []api.Touch{load(uint64(addr), uint64(size))}}
					checkRun(t, d.code, alone(t, with(d.some), code), nil, 99, want)
				}
			}
		}
	}
}

// TestStores: the bytes that a store writes, and those beside it, which stay.
func TestStores(t *testing.T) {
	memory := varied()
	value := uint64(0x8877665544332211)
	for op, size := range map[string]int{"fsb": 1, "fsw": 8, "fsc": 16} {
		last := api.MaxMem - size
		for _, addr := range []int{0, 1, 8, 1013, 1016, 1020, 1024, 40003, last - 1, last} {
			for _, imm := range []int{0, 3, -9} {
				code := fmt.Sprintf("%s a5 b9 c4 i%d", op, imm)
				want := api.Result{Touches: []api.Touch{store(uint64(addr), uint64(size))}}
				for k := max(addr-2, 0); k < min(addr+size+2, api.MaxMem); k++ {
					b := uint64(memory[k])
					switch {
					case k >= addr && k < addr+min(size, 8):
						b = value >> (8 * (k - addr)) % 256
					case k >= addr && k < addr+size:
						b = 0
					}
					code += fmt.Sprintf(";flb a1 b3 i%d;fout a1", k)
					want.Out = append(want.Out, b)
					want.Touches = append(want.Touches, load(uint64(k), 1))
				}
				want.Out = append(want.Out, value, uint64(addr)-uint64(imm), 1000)
				code += ";fout a5;fout a9;fout a0;ftrap i3"
				want.Outcome = ended(api.Trapped, 3, strings.Count(code, ";"))
				p := alone(t, with(map[int]uint64{3: 0, 5: value, 9: uint64(addr) - uint64(imm)}), code)
				checkRun(t, code, p, nil, 999, want)
			}
		}
	}
}

// TestBounds: bytes that do not all lie in memory, and sums that go round.
func TestBounds(t *testing.T) {
	for op, size := range map[string]uint64{"flb": 1, "flw": 8, "flc": 16, "fsb": 1, "fsw": 8, "fsc": 16} {
		limit := api.MaxMem - size
		for _, addr := range []uint64{0, 1, limit - 1, limit, limit + 1, api.MaxMem - 1, api.MaxMem, api.MaxMem + 1, 1 << 32, 1<<32 + 5, 1 << 63, top - 16, top - 8, top - 7, top - 1, top} {
			for _, imm := range []int{0, 1, 65536, -1, -65536} {
				p := alone(t, with(map[int]uint64{4: addr - uint64(imm)}), fmt.Sprintf("fout a1;%s a1 b4 i%d;fhalt", op, imm))
				want := api.Result{Outcome: faulted(api.FBounds, 1), Out: []uint64{1100}}
				if addr <= limit {
					isStore := strings.HasPrefix(op, "fs")
					want = api.Result{Outcome: halted(1000, 2), Out: []uint64{1100}, Touches: []api.Touch{{Store: isStore, Addr: addr, Size: size}}}
				}
				checkRun(t, fmt.Sprintf("%s at %d, by Imm %d", op, addr, imm), p, nil, 9, want)
			}
		}
	}
}

// branchings are two numbers, and which branches are taken then.
func branchings() []struct {
	a, b           uint64
	eq, ne, lt, ge bool
} {
	return []struct {
		a, b           uint64
		eq, ne, lt, ge bool
	}{
		{a: 5, b: 5, eq: true, ge: true}, {a: 4, b: 5, ne: true, lt: true}, {a: 5, b: 4, ne: true, ge: true},
		{a: 0, b: top, ne: true, lt: true}, {a: top, b: 0, ne: true, ge: true}, {a: top, b: top, eq: true, ge: true},
		{a: 1<<63 - 1, b: 1 << 63, ne: true, lt: true}, {a: 1, b: 1<<32 + 1, ne: true, lt: true}, {a: 0, b: 0, eq: true, ge: true},
	}
}

// TestBranches: to the one ahead, to the one behind and to one further off, all by one step; registers stay.
func TestBranches(t *testing.T) {
	place := func(op string, some map[int]uint64, isTaken bool) {
		t.Helper()
		for to := range 8 {
			code := "fjmp i3;fnop;fnop;" + op + " i" + strconv.Itoa(to) + ";fnop;fnop;fnop;fnop"
			want := spent(4)
			if isTaken {
				want = spent(to)
			}
			checkOutcome(t, code, alone(t, with(some), code), nil, 2, want)
		}
		code := op + " i2;fjmp i19;" + showing() + ";" + showing()
		want := api.Result{Outcome: ended(api.Trapped, 77, 35), Out: shown(some)}
		if isTaken {
			want.Outcome.Pc = 18
		}
		checkRun(t, code, alone(t, with(some), code), nil, 99, want)
	}
	place("fjmp a1 b2 c3", nil, true)
	for _, c := range branchings() {
		for op, isTaken := range map[string]bool{"fbeq": c.eq, "fbne": c.ne, "fblt": c.lt, "fbge": c.ge} {
			place(op+" a3 b9 c4", map[int]uint64{3: c.a, 9: c.b}, isTaken)
			if c.a == c.b {
				place(op, map[int]uint64{0: c.a}, isTaken)
			}
		}
	}
}

func TestGuards(t *testing.T) {
	for _, c := range []struct {
		a       uint64
		imm     int
		isBelow bool
	}{
		{0, 0, false}, {0, 1, true}, {1, 1, false}, {31, 32, true}, {32, 32, false}, {33, 32, false}, {top, 1, false}, {top, -1, false}, {top - 1, -1, true}, {1 << 63, 5, false}, {5, -1 << 63, true}, {1<<32 + 1, 2, false},
	} {
		for op, holds := range map[string]bool{"fglt": c.isBelow, "fgge": !c.isBelow} {
			for _, code := range []int{0, 9, 15, 16, 255} {
				text := fmt.Sprintf("%s a3 b2 c%d i%d", op, code, c.imm)
				if holds {
					checkDeed(t, deed{code: text, some: map[int]uint64{3: c.a}})
					continue
				}
				p := alone(t, with(map[int]uint64{3: c.a}), "fout a3;"+text+";fout a3;fhalt")
				want := api.Result{Outcome: ended(api.Guarded, uint64(code), 1), Out: []uint64{c.a}}
				checkRun(t, text, p, nil, 9, want)
			}
		}
	}
	for _, code := range []int{0, 1, 15, 16, 17, 254, 255} {
		text := fmt.Sprintf("fguard a1 b2 c%d i4", code)
		checkOutcome(t, text, alone(t, regs(), "fnop;"+text+";fhalt"), nil, 9, ended(api.Guarded, uint64(code), 1))
	}
}

func TestHaltsAndTraps(t *testing.T) {
	for code, want := range map[string]api.Outcome{
		"fhalt a3 b1 c2 i9": halted(1300, 0), "fhalt": halted(1000, 0), "fhalt a15": halted(top, 0), "fhalt a2": halted(0, 0),
		"ftrap a3 b1 c2 i9": ended(api.Trapped, 9, 0), "ftrap": ended(api.Trapped, 0, 0), "ftrap i-1": ended(api.Trapped, top, 0), "ftrap i256": ended(api.Trapped, 256, 0),
		"fret a3 b1 c2 i9": halted(0, 0),
	} {
		p := alone(t, with(map[int]uint64{2: 0, 15: top}), code+";fout a1;ftrap i9")
		checkRun(t, code, p, nil, 9, api.Result{Outcome: want})
	}
}
