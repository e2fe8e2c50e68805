package erase_test

import (
	"slices"
	"strconv"
	"strings"
	"testing"

	"paddock/api"
	"paddock/asm"
	"paddock/checker"
	"paddock/erase"
)

const top = ^uint64(0)

const rw = api.Load | api.Store

// names are the operations of bare addresses, in small letters.
func names() map[string]api.FOp {
	return map[string]api.FOp{
		"fnop": api.FNop, "fli": api.FLI, "fmov": api.FMOV,
		"fadd": api.FADD, "fsub": api.FSUB, "fmul": api.FMUL, "fand": api.FAND, "for": api.FOR, "fxor": api.FXOR, "fshl": api.FSHL, "fshr": api.FSHR,
		"faddi": api.FADDI, "fslt": api.FSLT, "fseq": api.FSEQ,
		"fjmp": api.FJMP, "fbeq": api.FBEQ, "fbne": api.FBNE, "fblt": api.FBLT, "fbge": api.FBGE,
		"fhalt": api.FHALT, "ftrap": api.FTRAP, "fin": api.FIN, "fout": api.FOUT, "fcall": api.FCALL, "fret": api.FRET,
		"flb": api.FLB, "flw": api.FLW, "fsb": api.FSB, "fsw": api.FSW, "flc": api.FLC, "fsc": api.FSC,
		"fglt": api.FGLT, "fgge": api.FGGE, "fguard": api.FGUARD,
	}
}

// bare reads code of bare addresses: instructions with a semicolon between, each a name and those fields that are not 0, as a1, b8, c7, i-3.
func bare(t testing.TB, text string) []api.FInst {
	t.Helper()
	var l []api.FInst
	for _, line := range strings.Split(text, ";") {
		words := strings.Fields(line)
		op, there := names()[words[0]]
		if !there {
			t.Fatalf("there is no %q", words[0])
		}
		i := api.FInst{Op: op}
		for _, w := range words[1:] {
			n, e := strconv.Atoi(w[1:])
			field := map[byte]*int{'a': &i.A, 'b': &i.B, 'c': &i.C}[w[0]]
			switch {
			case e != nil || field == nil && w[0] != 'i':
				t.Fatalf("there is no field %q", w)
			case field == nil:
				i.Imm = uint64(n)
			default:
				*field = n
			}
		}
		l = append(l, i)
	}
	return l
}

// parse reads a program, in whose text a semicolon stands for the end of a line.
func parse(t testing.TB, text string) api.Image {
	t.Helper()
	text = strings.ReplaceAll(text, ";", "\n")
	m, e, line := asm.Parse(text)
	if e != api.OK {
		t.Fatalf("Parse: %d, line %d of\n%s", e, line, text)
	}
	return m
}

// alone is a program of one compartment with roots for bytes (r8, and r12, which points to their end), for places of capabilities (r9), for sealing (r10), and a sealed one (r11); its gate has two integers as arguments.
func alone(code string) string {
	return "depth 2;region 0 64 bytes #0102;region 64 32 slots;slot cap 0 64 0 63 rw 0 at 5;slot cap 0 64 0 0 r 5 at 0;comp;" +
		"root r8 0 64 16 rw 0;root r9 64 96 64 cd 0;root r10 1 16 5 su 0;root r11 0 64 7 r 5;root r12 0 64 64 rw 0;" +
		code + ";gate g 0 0 int int ->"
}

// taken is what Program makes of a program that the checker takes.
func taken(t testing.TB, promise string, m api.Image) api.Program {
	t.Helper()
	r := checker.Check(m)
	if r.Reason != api.Fine {
		t.Fatalf("%s: it is refused: %d at %d of the gate %d", promise, r.Reason, r.Pc, r.Gate)
	}
	p, ok := erase.Program(m, r)
	if !ok {
		t.Fatalf("%s: there is no Program, though it is taken", promise)
	}
	return p
}

func checkCode(t *testing.T, promise string, got []api.FInst, want []api.FInst) {
	t.Helper()
	if len(got) != len(want) {
		t.Errorf("%s: %d instructions, want %d", promise, len(got), len(want))
		return
	}
	for pc := range got {
		if got[pc] != want[pc] {
			t.Errorf("%s: at %d: %+v, want %+v", promise, pc, got[pc], want[pc])
		}
	}
}

// checkNone looks whether there is no Program.
func checkNone(t *testing.T, what string, m api.Image, r api.Report) {
	t.Helper()
	if p, ok := erase.Program(m, r); ok || !isEmpty(p) {
		t.Errorf("12.2: %s: %t, %d rows of code, %d gates, %d bytes, depth %d", what, ok, len(p.Code), len(p.Gates), len(p.Memory), p.Depth)
	}
}

func isEmpty(p api.Program) bool {
	return len(p.Code) == 0 && len(p.Gates) == 0 && p.Memory == "" && p.Depth == 0
}

func sameProgram(a api.Program, b api.Program) bool {
	sameCode := slices.EqualFunc(a.Code, b.Code, func(x, y []api.FInst) bool { return slices.Equal(x, y) })
	return sameCode && slices.Equal(a.Gates, b.Gates) && a.Memory == b.Memory && a.Depth == b.Depth
}

func integer(lo uint64, hi uint64) api.RType {
	return api.RType{Kind: api.AnInt, N: api.Span{Lo: lo, Hi: hi}}
}

func anyInteger() api.RType { return integer(0, top) }

// copied is a table in new memory, of which the rows may be changed.
func copied(t api.Table) api.Table {
	var l api.Table
	for _, row := range t {
		l = append(l, slices.Clone(row))
	}
	return l
}
