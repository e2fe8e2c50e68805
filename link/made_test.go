package link_test

import (
	"fmt"
	"slices"
	"strings"
	"testing"

	"paddock/api"
	"paddock/instr"
)

// TestDepths: the greatest one, wherever it is.
func TestDepths(t *testing.T) {
	for _, depths := range [][]int{{1}, {16}, {1, 2}, {2, 1}, {3, 3}, {1, 16, 2}, {16, 1, 1}, {1, 1, 16}, {7, 5, 6, 4}} {
		var l []api.Module
		for _, d := range depths {
			m := plain(t, "-")
			m.Image.Depth = d
			l = append(l, m)
		}
		if m := linked(t, "depths", l...); m.Image.Depth != slices.Max(depths) {
			t.Errorf("17.3: of the depths %v: %d", depths, m.Image.Depth)
		}
	}
}

// TestRegionsInOrder: by rising Base, each with what it holds.
func TestRegionsInOrder(t *testing.T) {
	a := module(t, "depth 1;region 64 16 bytes #0a;region 256 32 slots;slot cap 0 16 0 15 r 3 at 5;slot cap 16 32 0 15 rw 0 at 6;comp;ret;gate g 0 0 ->", "-")
	b := module(t, "depth 1;region 0 32 bytes;region 128 16 bytes #0b0c;region 65520 16 bytes #0d;comp;ret;gate g 0 0 ->", "-")
	c := module(t, "depth 1;region 32 32 bytes #0e;region 80 16 slots;slot cap 0 65536 1 2 cd 0 at 1;comp;ret;gate g 0 0 ->", "-")
	regions := "region 0 32 bytes;region 32 32 bytes #0e;region 64 16 bytes #0a;region 80 16 slots;slot cap 0 65536 1 2 cd 0 at 1;region 128 16 bytes #0b0c;" +
		"region 256 32 slots;slot cap 0 16 0 15 r 3 at 5;slot cap 16 32 0 15 rw 0 at 6;region 65520 16 bytes #0d;"
	want := module(t, "depth 1;"+regions+"comp;ret;comp;ret;comp;ret;gate g0 0 0 ->;gate g1 1 0 ->;gate g2 2 0 ->", "- - -")
	for _, o := range orders(3) {
		checkLink(t, fmt.Sprintf("regions, the modules as %v", o), want, ordered([]api.Module{a, b, c}, o)...)
	}
}

// TestCalls: of gates of the same module ahead of, between and behind ones that stand for others, and of these, from either compartment.
func TestCalls(t *testing.T) {
	code := "call 6;call 5;call 4;call 3;call 2;call 1;call 0;ret;"
	gates := "gate g0 0 0 ->;gate g1 1 1 ->;gate g2 0 2 ->;gate g3 1 3 ->;gate g4 0 4 ->;gate g5 1 5 ->;gate g6 0 6 ->"
	a := module(t, "depth 1;comp;"+code+"comp;"+code+gates, "=z a1 =y a3 =x =z a6")
	b := module(t, "depth 1;comp;call 0;call 1;call 2;call 3;ret;gate g0 0 0 ->;gate g1 0 1 ->;gate g2 0 2 ->;gate g3 0 3 ->", "x =a6 y z")
	// The gates of a: a1, a3, a6; those of b: x, y, z.
	ab := "depth 1;" + strings.Repeat("comp;call 2;call 5;call 3;call 1;call 4;call 0;call 5;ret;", 2) +
		"comp;call 3;call 2;call 4;call 5;ret;" +
		"gate g0 1 1 ->;gate g1 1 3 ->;gate g2 0 6 ->;gate g3 2 0 ->;gate g4 2 2 ->;gate g5 2 3 ->"
	checkLink(t, "CALLs, a ahead", module(t, ab, "a1 a3 a6 x y z"), a, b)
	ba := "depth 1;comp;call 0;call 5;call 1;call 2;ret;" +
		strings.Repeat("comp;call 5;call 2;call 0;call 4;call 1;call 3;call 2;ret;", 2) +
		"gate g0 0 0 ->;gate g1 0 2 ->;gate g2 0 3 ->;gate g3 2 1 ->;gate g4 2 3 ->;gate g5 1 6 ->"
	checkLink(t, "CALLs, b ahead", module(t, ba, "x y z a1 a3 a6"), b, a)
}

// TestChain: what is needed may need others itself, and one another.
func TestChain(t *testing.T) {
	link := func(name, need string) api.Module {
		return module(t, "depth 1;comp;call 1;call 0;ret;gate g0 0 0 ->;gate g1 0 1 ->", name+" ="+need)
	}
	chain := []api.Module{link("a", "b"), link("b", "c"), link("c", "d"), plain(t, "d")}
	want := "depth 1;comp;call 1;call 0;ret;comp;call 2;call 1;ret;comp;call 3;call 2;ret;comp;ret;gate g0 0 0 ->;gate g1 1 0 ->;gate g2 2 0 ->;gate g3 3 0 ->"
	checkLink(t, "a chain", module(t, want, "a b c d"), chain...)
	want = "depth 1;comp;ret;comp;call 0;call 1;ret;comp;call 1;call 2;ret;comp;call 2;call 3;ret;gate g0 0 0 ->;gate g1 1 0 ->;gate g2 2 0 ->;gate g3 3 0 ->"
	slices.Reverse(chain)
	checkLink(t, "a chain backwards", module(t, want, "d c b a"), chain...)
	want = "depth 1;comp;call 1;call 0;ret;comp;call 2;call 1;ret;comp;call 0;call 2;ret;gate g0 0 0 ->;gate g1 1 0 ->;gate g2 2 0 ->"
	checkLink(t, "a ring", module(t, want, "a b c"), link("a", "b"), link("b", "c"), link("c", "a"))
}

// TestAllStandForOthers: a module that gives nothing; its compartment stays.
func TestAllStandForOthers(t *testing.T) {
	a := module(t, "depth 2;region 0 16 bytes #01;comp;root r9 0 16 3 r 0;call 1;call 0;ret;gate g0 0 0 ->;gate g1 0 2 ->", "=x =x")
	want := "depth 2;region 0 16 bytes #01;comp;root r9 0 16 3 r 0;call 0;call 0;ret;comp;ret;gate g0 1 0 ->"
	checkLink(t, "all stand for others", module(t, want, "x"), a, plain(t, "x"))
	want = "depth 2;region 0 16 bytes #01;comp;ret;comp;root r9 0 16 3 r 0;call 0;call 0;ret;gate g0 0 0 ->"
	checkLink(t, "all stand for others, behind", module(t, want, "x"), plain(t, "x"), a)
}

// each is one right instruction of each operation, with numbers that gates could have.
func each(imm int) []api.Inst {
	var l []api.Inst
	for n := range 256 {
		op := api.Op(n)
		i := api.Inst{Op: op, Imm: imm}
		for k, letter := range instr.Shape(op) {
			switch letter {
			case 'r':
				*[]*int{&i.A, &i.B, &i.C}[k] = (imm + k) % 16
			case 'c':
				if op != api.TRAP {
					i.C = imm
				}
			}
		}
		if strings.Trim(instr.Shape(op), "r") == "" || strings.HasSuffix(instr.Shape(op), "rc") {
			i.Imm = 0
		}
		if instr.Right(i) == api.OK && op != api.CALL {
			l = append(l, i)
		}
	}
	return l
}

// TestAllElseStays: numbers in other operations, whichever, and roots.
func TestAllElseStays(t *testing.T) {
	a, b := module(t, textA, "main =twice"), moduleB(t)
	a.Image.Comps[0].Roots = []api.Root{{Reg: 8, Cap: api.Cap{Base: 1, End: 2, Cursor: 3, Perms: 4, Seal: 5}}, {Reg: 15, Cap: api.Cap{End: 1 << 32, Cursor: 1 << 63}}}
	b.Image.Comps[0].Roots = []api.Root{{Reg: 9, Cap: api.Cap{End: 7, Perms: api.AllPerms &^ api.Exec}}}
	kinds := map[api.Op]int{}
	for imm := range 4 {
		for _, i := range each(imm) {
			kinds[i.Op]++
		}
		a.Image.Comps[0].Code = append(a.Image.Comps[0].Code, each(imm)...)
		b.Image.Comps[0].Code = append(b.Image.Comps[0].Code, each(imm)[20:]...)
	}
	// CALL alone is not among them.
	if names := opNames(); len(kinds) != len(names)-1 {
		t.Fatalf("%d operations of %d: the test is too narrow", len(kinds), len(names))
	}
	for _, l := range [][]api.Module{{a, b}, {b, a}} {
		m := linked(t, "all operations", l...)
		for k := range l {
			was, is := l[k].Image.Comps[0], m.Image.Comps[k]
			if !slices.Equal(was.Roots, is.Roots) || len(was.Code) != len(is.Code) {
				t.Fatalf("17.3: roots, or the length of the code, have changed")
			}
			for pc, i := range was.Code {
				if i.Op != api.CALL && is.Code[pc] != i {
					t.Errorf("17.3: %+v became %+v", i, is.Code[pc])
				}
			}
		}
	}
}

func opNames() []string {
	var l []string
	for n := range 256 {
		if name := instr.Name(api.Op(n)); name != "" {
			l = append(l, name)
		}
	}
	return l
}

// TestGatesOfTheWhole: compartments told anew; entries, arguments and results as they were.
func TestGatesOfTheWhole(t *testing.T) {
	a := module(t, "depth 1;comp;ret;ret;comp;ret;ret;ret;gate g0 1 2 int cap 0 16 0 1 r 0 -> int;gate g1 0 1 ->;gate g2 1 1 -> int;gate g3 0 0 int -> cap 0 8 0 0 - 3", "- =b1 a2 a3")
	b := module(t, "depth 1;comp;ret;comp;ret;ret;gate g0 1 1 cap 0 16 0 1 rw 0 ->;gate g1 0 0 ->;gate g2 1 0 int -> int;gate g3 0 0 -> int", "b0 b1 - =a2")
	want := "depth 1;comp;ret;ret;comp;ret;ret;ret;comp;ret;comp;ret;ret;" +
		"gate g0 1 2 int cap 0 16 0 1 r 0 -> int;gate g1 1 1 -> int;gate g2 0 0 int -> cap 0 8 0 0 - 3;" +
		"gate g3 3 1 cap 0 16 0 1 rw 0 ->;gate g4 2 0 ->;gate g5 3 0 int -> int"
	checkLink(t, "gates", module(t, want, "- a2 a3 b0 b1 -"), a, b)
	want = "depth 1;comp;ret;comp;ret;ret;comp;ret;ret;comp;ret;ret;ret;" +
		"gate g0 1 1 cap 0 16 0 1 rw 0 ->;gate g1 0 0 ->;gate g2 1 0 int -> int;" +
		"gate g3 3 2 int cap 0 16 0 1 r 0 -> int;gate g4 3 1 -> int;gate g5 2 0 int -> cap 0 8 0 0 - 3"
	checkLink(t, "gates, b ahead", module(t, want, "b0 b1 - - a2 a3"), b, a)
}

// TestCodePointers: code lies elsewhere, where the numbers of compartments have changed, and CPC shows it.
func TestCodePointers(t *testing.T) {
	a := module(t, "depth 1;comp;cpc r1 1;caddr r1 r1;halt r1;gate g 0 0 ->", "where")
	for ahead := range 4 {
		l := append(counted(t, [][4]int{{0, 1, 1, 0}, {0, 1, 1, 0}, {0, 1, 1, 0}}[:max(ahead, 1)]...)[:ahead], a)
		m := linked(t, "a code pointer", l...)
		r := ran(t, "a code pointer", loaded(t, "a code pointer", m.Image), ahead, begun{fuel: 10})
		want := uint64(api.CodeBase + ahead*api.CodeStep + api.Width)
		if r.Outcome.End != api.Halted || r.Outcome.Value != want {
			t.Errorf("17.3: behind %d: %+v, want %d", ahead, r.Outcome, want)
		}
	}
}
