package thread_test

import (
	"math"
	"slices"
	"strconv"
	"strings"
	"testing"

	"paddock/api"
	"paddock/thread"
)

// three is a program of three gates, with rows of four, three and two instructions.
func three(t testing.TB) api.Program {
	t.Helper()
	return api.Program{
		Code:   [][]api.FInst{bare(t, "fnop;fnop;fnop;fhalt"), bare(t, "fnop;fnop;fhalt"), bare(t, "fnop;fhalt")},
		Gates:  []api.FEntry{{}, {Entry: 1, Args: 1, Results: 2}, {Entry: 1, Args: 7}},
		Memory: "some bytes",
		Depth:  1,
	}
}

// checkMay asks a program at all its gates, and at some that are not there.
func checkMay(t *testing.T, what string, p api.Program, may bool) {
	t.Helper()
	c := thread.Compile(p)
	if c == nil {
		t.Fatalf("23.1: %s: nil", what)
	}
	for gate := -1; gate < 5; gate++ {
		isThere := may && gate >= 0 && gate < len(p.Gates)
		if n := c.Blocks(gate); (n > 0) != isThere {
			t.Errorf("23.3: %s: Blocks(%d) is %d", what, gate, n)
		}
		if !isThere {
			checkEmpty(t, what, c, gate, nil, nil, 1, api.ErrEntry)
			checkEmpty(t, what, c, gate, make([]uint64, 9), nil, 1, api.ErrEntry)
			continue
		}
		checkEmpty(t, what, c, gate, make([]uint64, 9), nil, 1, api.ErrArgs)
		if r, e := c.Run(gate, make([]uint64, p.Gates[gate].Args), nil, 0); e != api.OK || r.Outcome.Pc != p.Gates[gate].Entry {
			t.Errorf("23.2: %s: at the gate %d: %+v, %d, want OK", what, gate, r, e)
		}
	}
}

func TestNoProgram(t *testing.T) {
	checkMay(t, "nothing", api.Program{}, false)
	checkMay(t, "nothing but memory", api.Program{Memory: "some bytes", Depth: 1}, false)
	checkMay(t, "empty lists", api.Program{Code: [][]api.FInst{}, Gates: []api.FEntry{}}, false)
	checkMay(t, "a gate and no row", api.Program{Gates: []api.FEntry{{}}}, false)
	checkMay(t, "a row and no gate", api.Program{Code: [][]api.FInst{bare(t, "fhalt")}}, false)
	checkMay(t, "a row without instructions", api.Program{Code: [][]api.FInst{nil}, Gates: []api.FEntry{{}}}, false)
	checkMay(t, "three gates", three(t), true)
}

func TestCountsOfPrograms(t *testing.T) {
	row := bare(t, "fnop;fhalt")
	for _, n := range []int{0, 1, 2, 15, 16, 17, 18, 100} {
		p := api.Program{Code: many(n, row), Gates: many(n, api.FEntry{Entry: 1})}
		checkMay(t, strconv.Itoa(n)+" gates", p, n >= 1 && n <= 16)
	}
	for rows := range 6 {
		p := three(t)
		p.Code = many(rows, row)
		checkMay(t, strconv.Itoa(rows)+" rows for three gates", p, rows == 3)
	}
	p := three(t)
	p.Code = append(p.Code, nil)
	checkMay(t, "an empty row besides", p, false)
	p = three(t)
	p.Gates = p.Gates[:2]
	checkMay(t, "a row besides", p, false)
}

func TestLengthsOfRows(t *testing.T) {
	for gate := range 3 {
		for _, n := range []int{0, 1, 2, 3, 399, 400, 401, 402, 10000} {
			p := three(t)
			p.Gates[gate].Entry = 0
			p.Code[gate] = many(n, api.FInst{Op: api.FHALT})
			checkMay(t, strconv.Itoa(n)+" instructions", p, n >= 1 && n <= 400)
		}
		p := three(t)
		p.Code[gate] = nil
		checkMay(t, "no row", p, false)
	}
}

func TestDepthsAndMemory(t *testing.T) {
	for _, n := range []int{math.MinInt, -1 << 32, -17, -1, 0, 1, 2, 15, 16, 17, 18, 256, 1 << 32, 1<<32 + 1, math.MaxInt} {
		p := three(t)
		p.Depth = n
		checkMay(t, "the depth "+strconv.Itoa(n), p, n >= 0 && n <= 16)
	}
	for _, n := range []int{0, 1, 15, 16, 65535, 65536, 65537, 65552, 1 << 17} {
		p := three(t)
		p.Memory = strings.Repeat("x", n)
		checkMay(t, strconv.Itoa(n)+" bytes", p, n <= 65536)
	}
}

// odd are numbers about the edges of what fields may be, and such as look right in fewer bits.
func odd() []int {
	l := []int{math.MinInt, -1 << 32, -256, -17, -16, -2, -1, 0, 1, 2, 3, 4, 6, 7, 8, 9, 14, 15, 16, 17, 31, 32, 127, 128, 254, 255, 256, 257}
	return append(l, 271, 65535, 65536, 1<<31-1, 1<<31, 1<<32, 1<<32+1, 1<<32+15, 1<<56, math.MaxInt)
}

func TestGatesThatMayBe(t *testing.T) {
	for gate := range 3 {
		for _, n := range odd() {
			what := " of the gate " + strconv.Itoa(gate) + " is " + strconv.Itoa(n)
			p := three(t)
			p.Gates[gate].Entry = n
			checkMay(t, "Entry"+what, p, n >= 0 && n < len(p.Code[gate]))
			p = three(t)
			p.Gates[gate].Args = n
			checkMay(t, "Args"+what, p, n >= 0 && n <= 7)
			p = three(t)
			p.Gates[gate].Results = n
			checkMay(t, "Results"+what, p, n >= 0 && n <= 7)
		}
		p := three(t)
		spoil(p.Gates[gate].Roots[:], top)
		checkMay(t, "Roots are any numbers", p, true)
	}
}

// anywhere lays an instruction in each place of a program, and asks whether that may be, by how many instructions the row has.
func anywhere(t *testing.T, i api.FInst, may func(size int) bool) {
	t.Helper()
	for gate, row := range three(t).Code {
		for pc := range row {
			p := three(t)
			p.Code[gate][pc] = i
			what := nameOf(i.Op) + ", A " + strconv.Itoa(i.A) + ", B " + strconv.Itoa(i.B) + ", C " + strconv.Itoa(i.C) + ", Imm " + strconv.FormatUint(i.Imm, 10)
			checkMay(t, what, p, may(len(row)))
		}
	}
}

func TestOperationsThatMayBe(t *testing.T) {
	for n := range 256 {
		op := api.FOp(n)
		anywhere(t, api.FInst{Op: op}, func(int) bool { return slices.Contains(ops(), op) })
	}
}

// TestFieldsThatMayBe: all fields are asked, also those that an operation does not use.
func TestFieldsThatMayBe(t *testing.T) {
	for _, op := range ops() {
		most := 15
		if isGuard(op) {
			most = 255
		}
		for _, n := range odd() {
			anywhere(t, api.FInst{Op: op, A: n}, func(int) bool { return n >= 0 && n <= 15 })
			anywhere(t, api.FInst{Op: op, B: n}, func(int) bool { return n >= 0 && n <= 15 })
			anywhere(t, api.FInst{Op: op, C: n}, func(int) bool { return n >= 0 && n <= most })
		}
		anywhere(t, api.FInst{Op: op, A: 15, B: 15, C: most}, func(int) bool { return true })
	}
}

// TestNumbersThatMayBe: a jump names an instruction of its row (the place behind the last one is none), a call a gate.
func TestNumbersThatMayBe(t *testing.T) {
	for _, op := range ops() {
		for _, n := range []uint64{0, 1, 2, 3, 4, 5, 15, 16, 255, 256, 400, 65535, 65536, 1 << 31, 1 << 32, 1<<32 + 1, 1 << 63, 1<<63 + 1, top - 1, top} {
			anywhere(t, api.FInst{Op: op, Imm: n}, func(size int) bool {
				switch {
				case namesOne(op):
					return n < uint64(size)
				case op == api.FCALL:
					return n < 3
				}
				return true
			})
		}
	}
	p := three(t)
	p.Code[0][0] = api.FInst{Op: api.FJMP, Imm: 3}
	p.Code[2][0] = api.FInst{Op: api.FCALL, Imm: 2}
	checkMay(t, "the last one of a row, and the last gate", p, true)
	p.Code[1][0] = api.FInst{Op: api.FJMP, Imm: 3}
	checkMay(t, "one that only a longer row has", p, false)
	p = three(t)
	p.Code[0][0] = api.FInst{Op: api.FCALL, Imm: 3}
	checkMay(t, "a gate with the number of an instruction", p, false)
}

// TestJumpsOffTheCode: the place behind the last instruction is no instruction, for a row of any length.
func TestJumpsOffTheCode(t *testing.T) {
	for _, size := range []int{1, 2, 5, 399, 400} {
		for _, op := range ops() {
			if !namesOne(op) {
				continue
			}
			for pc := range map[int]bool{0: true, size / 2: true, size - 1: true} {
				p := api.Program{Code: [][]api.FInst{many(size, api.FInst{})}, Gates: []api.FEntry{{}}}
				p.Code[0][pc] = api.FInst{Op: op, Imm: uint64(size - 1)}
				checkMay(t, nameOf(op)+" to the last one", p, true)
				for _, imm := range []uint64{uint64(size), uint64(size) + 1, 1 << 32, top} {
					p.Code[0][pc].Imm = imm
					checkMay(t, nameOf(op)+" off the code", p, false)
				}
			}
		}
	}
}

func TestErrors(t *testing.T) {
	p := api.Program{Depth: 1}
	for k := range 8 {
		p.Code = append(p.Code, bare(t, "fnop;fout a1;fhalt a1"))
		p.Gates = append(p.Gates, api.FEntry{Args: k, Roots: [api.Regs]uint64{1: 90}})
	}
	c := thread.Compile(p)
	for gate := range 8 {
		for n := range 20 {
			for _, fuel := range []int{least, -1, 0, 9, most} {
				if n != gate {
					checkEmpty(t, "too few, or too many", c, gate, make([]uint64, n), []uint64{1}, fuel, api.ErrArgs)
				}
			}
		}
		args := many(gate, uint64(55))
		want := api.Result{Outcome: api.Outcome{End: api.Halted, Value: 55, Gate: gate, Pc: 2}, Out: []uint64{55}}
		if gate == 0 {
			want.Outcome.Value, want.Out[0] = 90, 90
		}
		checkResult(t, "just so many", ran(t, c, gate, args, nil, 9), want)
		checkResult(t, "an empty list of inputs", ran(t, c, gate, args, []uint64{}, 9), want)
		checkResult(t, "an input too many", ran(t, c, gate, args, []uint64{1}, 9), want)
	}
	checkResult(t, "nil", ran(t, c, 0, nil, nil, 9), ran(t, c, 0, []uint64{}, []uint64{}, 9))
	for _, gate := range []int{least, -1 << 32, -8, -1, 8, 9, 15, 16, 1 << 32, 1<<32 + 1, most} {
		for _, n := range []int{0, 1, 7, 8, 100} {
			checkEmpty(t, "no such gate", c, gate, make([]uint64, n), nil, 9, api.ErrEntry)
		}
		if n := c.Blocks(gate); n != 0 {
			t.Errorf("23.3: no such gate: Blocks(%d) is %d", gate, n)
		}
	}
	for gate := range 8 {
		if n := c.Blocks(gate); n != 1 {
			t.Errorf("23.3: Blocks(%d) is %d, want 1", gate, n)
		}
	}
}
