package link_test

import (
	"reflect"
	"slices"
	"strings"
	"testing"

	"paddock/api"
	"paddock/asm"
	"paddock/checker"
	"paddock/image"
	"paddock/link"
	"paddock/sandbox"
)

// parse reads a program, in whose text a semicolon stands for the end of a line.
func parse(t testing.TB, text string) api.Image {
	t.Helper()
	text = strings.ReplaceAll(text, ";", "\n")
	m, e, line := asm.Parse(text)
	if e != api.OK {
		t.Fatalf("Parse: %d, line %d of\n%s", e, line, text)
	}
	return m
}

// module is one of a program's text and a text of words, one for each gate: its name; `-`, if it has none; or `=` and what it stands for.
func module(t testing.TB, text, gates string) api.Module {
	t.Helper()
	m := api.Module{Image: parse(t, text)}
	for k, word := range strings.Fields(gates) {
		name, isNeed := strings.CutPrefix(word, "=")
		switch {
		case isNeed:
			m.Needs = append(m.Needs, api.Need{Gate: k, Name: name})
			name = ""
		case word == "-":
			name = ""
		}
		m.Names = append(m.Names, name)
	}
	return m
}

// The modules of the chapter's examples.
const (
	textA = "depth 1;region 0 16 bytes;comp;li r1 20;call 1;ret;trap 1;gate g0 0 0 -> int;gate g1 0 3 int -> int"
	textB = "depth 1;region 16 16 bytes;comp;add r1 r1 r1;ret;gate g0 0 0 int -> int"
	textC = "depth 1;region 32 16 bytes;comp;ret;gate g0 0 0 ->"
)

func moduleA(t testing.TB) api.Module { t.Helper(); return module(t, textA, "main =twice") }

func moduleB(t testing.TB) api.Module { t.Helper(); return module(t, textB, "twice") }

func moduleC(t testing.TB) api.Module { t.Helper(); return module(t, textC, "main") }

// plain is a right module that meets nothing: one compartment, one gate with a name.
func plain(t testing.TB, name string) api.Module {
	t.Helper()
	return module(t, "depth 1;comp;ret;gate g0 0 0 ->", name)
}

// needy is one with a gate that has no name, and one that stands for another, neither with arguments or results.
func needy(t testing.TB, name string) api.Module {
	t.Helper()
	return module(t, "depth 1;comp;call 1;ret;gate g0 0 0 ->;gate g1 0 1 ->", "- ="+name)
}

// placed is one with a region.
func placed(t testing.TB, base, length uint64) api.Module {
	t.Helper()
	m := plain(t, "-")
	m.Image.Regions = []api.Region{{Base: base, Len: length}}
	return m
}

// loose is a module in memory of its own.
func loose(m api.Module) api.Module {
	return api.Module{Image: image.Copy(m.Image), Names: slices.Clone(m.Names), Needs: slices.Clone(m.Needs)}
}

func looseAll(l []api.Module) []api.Module {
	var n []api.Module
	for _, m := range l {
		n = append(n, loose(m))
	}
	return n
}

// even is a module of which each list without elements is nil, so that alike modules are deeply equal.
func even(m api.Module) api.Module {
	m = loose(m)
	m.Names, m.Needs = nilled(m.Names), nilled(m.Needs)
	p := &m.Image
	p.Regions, p.Comps, p.Gates = nilled(p.Regions), nilled(p.Comps), nilled(p.Gates)
	for k := range p.Regions {
		p.Regions[k].Slots = nilled(p.Regions[k].Slots)
	}
	for k := range p.Comps {
		p.Comps[k].Roots, p.Comps[k].Code = nilled(p.Comps[k].Roots), nilled(p.Comps[k].Code)
	}
	for k := range p.Gates {
		p.Gates[k].Args, p.Gates[k].Results = nilled(p.Gates[k].Args), nilled(p.Gates[k].Results)
	}
	return m
}

func nilled[T any](l []T) []T {
	if len(l) == 0 {
		return nil
	}
	return l
}

// same holds all of two modules against each other; a list without elements may be nil or not.
func same(a, b api.Module) bool { return reflect.DeepEqual(even(a), even(b)) }

// checkRight looks what Right tells, and that Link tells the same of one that stands alone, or behind others.
func checkRight(t testing.TB, what string, m api.Module, want api.Errno) {
	t.Helper()
	if e := link.Right(m); e != want {
		t.Errorf("17.1: %s: %d, want %d", what, e, want)
	}
	if want != api.OK {
		checkNoLink(t, what+", alone", want, 0, m)
		checkNoLink(t, what+", behind others", want, 2, plain(t, "p"), placed(t, 65520, 16), m)
	}
}

// checkNoLink looks whether modules can't be linked, with the error and whose it is.
func checkNoLink(t testing.TB, what string, want api.Errno, whose int, l ...api.Module) {
	t.Helper()
	m, e, k := link.Link(l...)
	if e != want || k != whose || !reflect.DeepEqual(m, api.Module{}) {
		t.Errorf("17.2: %s: %d, %d, want %d, %d, and nothing; the module is %+v", what, e, k, want, whose, m)
	}
}

// linked is what comes of modules that can be linked.
func linked(t testing.TB, what string, l ...api.Module) api.Module {
	t.Helper()
	m, e, k := link.Link(l...)
	if e != api.OK || k != 0 {
		t.Fatalf("17.3: %s: %d, %d, want OK and 0", what, e, k)
	}
	return m
}

// checkLink looks whether this comes of modules.
func checkLink(t testing.TB, what string, want api.Module, l ...api.Module) {
	t.Helper()
	checkSame(t, "17.3: "+what, linked(t, what, l...), want)
}

func checkSame(t testing.TB, what string, got, want api.Module) {
	t.Helper()
	if !same(got, want) {
		t.Errorf("%s: %s, want %s", what, shown(got), shown(want))
	}
}

// shown is a module as a text, for people.
func shown(m api.Module) string {
	text, _ := asm.Print(m.Image)
	var names strings.Builder
	for _, name := range m.Names {
		names.WriteString(" '" + name + "'")
	}
	return text + "names" + names.String()
}

func isTaken(m api.Image) bool { return checker.Check(m).Reason == api.Fine }

// loaded is a program that is taken.
func loaded(t testing.TB, what string, m api.Image) *sandbox.Program {
	t.Helper()
	s, e := image.Encode(m)
	if e != api.OK {
		t.Fatalf("%s: Encode: %d", what, e)
	}
	p, e, at, r := sandbox.Load(s)
	if p == nil {
		t.Fatalf("%s: it is not taken: %d, %d, Reason %d at %d of the gate %d", what, e, at, r.Reason, r.Pc, r.Gate)
	}
	return p
}

// begun are the arguments of a run, but for the gate.
type begun struct {
	args   []uint64
	inputs []uint64
	fuel   int
}

// ran is what comes of a run of a program that is taken, on both machines.
func ran(t testing.TB, what string, p *sandbox.Program, gate int, b begun) api.Result {
	t.Helper()
	r, e := p.Run(gate, b.args, b.inputs, b.fuel)
	s, f := p.Slow(gate, b.args, b.inputs, b.fuel)
	if e != api.OK || f != api.OK || !sameResult(r, s) {
		t.Fatalf("%s: from the gate %d: %d, %+v on the one machine, %d, %+v on the other", what, gate, e, r, f, s)
	}
	return r
}

func sameResult(a, b api.Result) bool {
	return a.Outcome == b.Outcome && slices.Equal(a.Out, b.Out) && slices.Equal(a.Touches, b.Touches)
}

// orders are all orders of so many things.
func orders(n int) [][]int {
	if n == 0 {
		return [][]int{nil}
	}
	var all [][]int
	for _, o := range orders(n - 1) {
		for at := range n {
			all = append(all, slices.Insert(slices.Clone(o), at, n-1))
		}
	}
	return all
}

// ordered are the elements of a list in another order.
func ordered[T any](l []T, order []int) []T {
	var n []T
	for _, k := range order {
		n = append(n, l[k])
	}
	return n
}
