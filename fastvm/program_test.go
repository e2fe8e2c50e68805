package fastvm_test

import (
	"math"
	"slices"
	"strconv"
	"strings"
	"testing"

	"paddock/api"
	"paddock/fastvm"
)

// three is a program of three gates, with rows of four, three and two instructions.
func three(t testing.TB) api.Program {
	t.Helper()
	return api.Program{
		Code:   [][]api.FInst{bare(t, "fnop;fnop;fnop;fhalt"), bare(t, "fnop;fnop;fhalt"), bare(t, "fnop;fhalt")},
		Gates:  []api.FEntry{{}, {Entry: 1, Args: 1, Results: 2}, {Entry: 1, Args: 7}},
		Memory: "some bytes",
		Depth:  1,
	}
}

// checkMay asks New for a machine at the gate 0, at the others, and at one that is not there: whatever is wrong is wrong for all of them, and comes ahead of arguments that are too many.
func checkMay(t *testing.T, what string, p api.Program, may bool) {
	t.Helper()
	for gate := range 4 {
		want := api.ErrEntry
		if may && gate < len(p.Gates) {
			want = api.OK
		}
		args := []uint64(nil)
		if want == api.OK {
			args = make([]uint64, p.Gates[gate].Args)
		}
		if x, e := fastvm.New(p, gate, args, nil); e != want || (x == nil) != (want != api.OK) {
			t.Errorf("13.1: %s: at the gate %d: %v, %d, want %d", what, gate, x != nil, e, want)
		}
		if want == api.OK {
			want = api.ErrArgs
		}
		if x, e := fastvm.New(p, gate, make([]uint64, 9), nil); e != want || x != nil {
			t.Errorf("13.1: %s: at the gate %d, with nine arguments: %v, %d, want %d", what, gate, x != nil, e, want)
		}
	}
}

// many are n times the same, as a list.
func many[T any](n int, v T) []T { return slices.Repeat([]T{v}, n) }

func TestCountsOfPrograms(t *testing.T) {
	row := bare(t, "fnop;fhalt")
	checkMay(t, "no program", api.Program{}, false)
	for _, n := range []int{0, 1, 2, 15, 16, 17, 18, 100} {
		p := api.Program{Code: many(n, row), Gates: many(n, api.FEntry{Entry: 1})}
		checkMay(t, strconv.Itoa(n)+" gates", p, n >= 1 && n <= 16)
	}
	for rows := range 6 {
		p := three(t)
		p.Code = many(rows, row)
		checkMay(t, strconv.Itoa(rows)+" rows for three gates", p, rows == 3)
	}
	p := three(t)
	p.Code = append(p.Code, nil)
	checkMay(t, "an empty row besides", p, false)
	p = three(t)
	p.Gates = p.Gates[:2]
	checkMay(t, "a row besides", p, false)
}

func TestLengthsOfRows(t *testing.T) {
	for gate := range 3 {
		for _, n := range []int{0, 1, 2, 3, 399, 400, 401, 402, 10000} {
			p := three(t)
			p.Gates[gate].Entry = 0
			p.Code[gate] = many(n, api.FInst{Op: api.FHALT})
			checkMay(t, strconv.Itoa(n)+" instructions", p, n >= 1 && n <= 400)
		}
		p := three(t)
		p.Code[gate] = nil
		checkMay(t, "no row", p, false)
	}
}

func TestDepths(t *testing.T) {
	for _, n := range []int{math.MinInt, -1 << 32, -17, -1, 0, 1, 2, 15, 16, 17, 18, 256, 1 << 32, 1<<32 + 1, math.MaxInt} {
		p := three(t)
		p.Depth = n
		checkMay(t, "the depth "+strconv.Itoa(n), p, n >= 0 && n <= 16)
	}
}

func TestLengthsOfMemory(t *testing.T) {
	for _, n := range []int{0, 1, 15, 16, 65535, 65536, 65537, 65552, 1 << 17} {
		p := three(t)
		p.Memory = strings.Repeat("x", n)
		checkMay(t, strconv.Itoa(n)+" bytes", p, n <= 65536)
	}
}

// odd are numbers about the edges of what fields may be, and such as look right in fewer bits.
func odd() []int {
	l := []int{math.MinInt, -1 << 32, -256, -17, -16, -2, -1, 0, 1, 2, 3, 4, 6, 7, 8, 9, 14, 15, 16, 17, 31, 32, 127, 128, 254, 255, 256, 257}
	return append(l, 271, 65535, 65536, 1<<31-1, 1<<31, 1<<32, 1<<32+1, 1<<32+15, 1<<56, math.MaxInt)
}

func TestGatesThatMayBe(t *testing.T) {
	for gate := range 3 {
		for _, n := range odd() {
			what := " of the gate " + strconv.Itoa(gate) + " is " + strconv.Itoa(n)
			p := three(t)
			p.Gates[gate].Entry = n
			checkMay(t, "Entry"+what, p, n >= 0 && n < len(p.Code[gate]))
			p = three(t)
			p.Gates[gate].Args = n
			checkMay(t, "Args"+what, p, n >= 0 && n <= 7)
			p = three(t)
			p.Gates[gate].Results = n
			checkMay(t, "Results"+what, p, n >= 0 && n <= 7)
		}
		p := three(t)
		fill(p.Gates[gate].Roots[:], top)
		checkMay(t, "Roots are any numbers", p, true)
	}
}

// anywhere lays an instruction in each place of a program, and asks whether that may be, by how many instructions the row has.
func anywhere(t *testing.T, i api.FInst, may func(size int) bool) {
	t.Helper()
	for gate, row := range three(t).Code {
		for pc := range row {
			p := three(t)
			p.Code[gate][pc] = i
			what := nameOf(i.Op) + ", A " + strconv.Itoa(i.A) + ", B " + strconv.Itoa(i.B) + ", C " + strconv.Itoa(i.C) + ", Imm " + strconv.FormatUint(i.Imm, 10)
			checkMay(t, what, p, may(len(row)))
		}
	}
}

func TestOperationsThatMayBe(t *testing.T) {
	count := 0
	for n := range 256 {
		op := api.FOp(n)
		isNamed := slices.Contains(ops(), op)
		if isNamed {
			count++
		}
		anywhere(t, api.FInst{Op: op}, func(int) bool { return isNamed })
	}
	if count != 34 {
		t.Errorf("13.1: package api names %d operations", count)
	}
}

// isGuard tells whether C of an operation is a code.
func isGuard(op api.FOp) bool { return op == api.FGLT || op == api.FGGE || op == api.FGUARD }

// TestFieldsThatMayBe: all fields are asked, also those that an operation does not use.
func TestFieldsThatMayBe(t *testing.T) {
	for _, op := range ops() {
		most := 15
		if isGuard(op) {
			most = 255
		}
		for _, n := range odd() {
			anywhere(t, api.FInst{Op: op, A: n}, func(int) bool { return n >= 0 && n <= 15 })
			anywhere(t, api.FInst{Op: op, B: n}, func(int) bool { return n >= 0 && n <= 15 })
			anywhere(t, api.FInst{Op: op, C: n}, func(int) bool { return n >= 0 && n <= most })
		}
		anywhere(t, api.FInst{Op: op, A: 15, B: 15, C: most}, func(int) bool { return true })
	}
}

func TestNumbersThatMayBe(t *testing.T) {
	for _, op := range ops() {
		for _, n := range []uint64{0, 1, 2, 3, 4, 5, 15, 16, 255, 256, 400, 65535, 65536, 1 << 31, 1 << 32, 1<<32 + 1, 1 << 63, 1<<63 + 1, top - 1, top} {
			anywhere(t, api.FInst{Op: op, Imm: n}, func(size int) bool {
				switch op {
				case api.FJMP, api.FBEQ, api.FBNE, api.FBLT, api.FBGE:
					return n < uint64(size)
				case api.FCALL:
					return n < 3
				}
				return true
			})
		}
	}
}

// TestTargetsAreOfTheRow: not of another row, be it longer or shorter; and gates of the program, however long rows are.
func TestTargetsAreOfTheRow(t *testing.T) {
	p := three(t)
	p.Code[0][0] = api.FInst{Op: api.FJMP, Imm: 3}
	p.Code[2][0] = api.FInst{Op: api.FCALL, Imm: 2}
	checkMay(t, "the last one of a row, and the last gate", p, true)
	p.Code[1][0] = api.FInst{Op: api.FJMP, Imm: 3}
	checkMay(t, "one that only a longer row has", p, false)
	p = three(t)
	p.Code[0][0] = api.FInst{Op: api.FCALL, Imm: 3}
	checkMay(t, "a gate with the number of an instruction", p, false)
}
