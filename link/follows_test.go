package link_test

import (
	"fmt"
	"slices"
	"testing"

	"paddock/api"
	"paddock/image"
	"paddock/lang"
	"paddock/link"
)

// TestLinkedIsRight: what is made has no needs, and is as a plain reading has it.
func TestLinkedIsRight(t *testing.T) {
	t.Parallel()
	calls := 0
	for seed := range uint64(250) {
		l := rolled(seed).laid()
		what := fmt.Sprintf("the family %d", seed)
		if e, _ := wrongBy(l); e != api.OK {
			t.Fatalf("%s can't be linked: %d", what, e)
		}
		for _, o := range orders(len(l)) {
			x := ordered(l, o)
			m := linked(t, what, x...)
			if e := link.Right(m); e != api.OK || len(m.Needs) != 0 {
				t.Fatalf("17.4: %s: what is made is not right: %d, %d needs", what, e, len(m.Needs))
			}
			checkSame(t, "17.3: "+what, m, madeOf(x))
			calls += countCalls(x)
		}
	}
	if calls < 1000 {
		t.Errorf("%d CALLs of what stands for others: the dice are too narrow", calls)
	}
}

func countCalls(l []api.Module) int {
	n := 0
	for _, m := range l {
		for _, c := range m.Image.Comps {
			for _, i := range c.Code {
				if i.Op == api.CALL && needAt(m, i.Imm) != "" {
					n++
				}
			}
		}
	}
	return n
}

// TestAlone: a module without needs stays as it is; so does what was linked.
func TestAlone(t *testing.T) {
	alone := 0
	for seed := range uint64(150) {
		l := rolled(1000 + seed).laid()
		for _, m := range append(l, linked(t, "a family", l...)) {
			if len(m.Needs) == 0 {
				alone++
				checkSame(t, "17.4: a module without needs, alone", linked(t, "alone", m), m)
			} else {
				checkNoLink(t, "a module with needs, alone", api.ErrNeed, 0, m)
			}
		}
	}
	if alone < 200 {
		t.Errorf("%d modules without needs: the dice are too narrow", alone)
	}
}

// TestInTwoGoes: whatever part can be linked by itself, ahead of, behind or between the others.
func TestInTwoGoes(t *testing.T) {
	parts, needed := 0, 0
	for seed := range uint64(250) {
		l := rolled(2000 + seed).laid()
		what := fmt.Sprintf("the family %d", seed)
		all := linked(t, what, l...)
		for from := range l {
			for to := from + 1; to <= len(l); to++ {
				part, e, _ := link.Link(l[from:to]...)
				if e != api.OK {
					continue
				}
				rest := slices.Concat(l[:from], []api.Module{part}, l[to:])
				checkSame(t, "17.4: "+what+", in two goes", linked(t, what+", in two goes", rest...), all)
				if to-from > 1 && len(rest) > 1 {
					parts++
					for _, m := range rest {
						needed += len(m.Needs)
					}
				}
			}
		}
	}
	if parts < 100 || needed < 50 {
		t.Errorf("%d parts, %d needs of others beside them: the dice are too narrow", parts, needed)
	}
}

// TestStaysTaken: what is made of modules that are taken is taken, in each order.
func TestStaysTaken(t *testing.T) {
	t.Parallel()
	for seed := range uint64(80) {
		l := rolled(3000 + seed).taken()
		for k, m := range l {
			if !isTaken(m.Image) {
				t.Fatalf("the module %d of the family %d is not taken", k, seed)
			}
		}
		for _, o := range orders(len(l)) {
			if m := linked(t, "a family", ordered(l, o)...); !isTaken(m.Image) {
				t.Errorf("17.4: the family %d, as %v, is not taken", seed, o)
			}
		}
	}
}

// callsNoOther tells whether the compartment of a gate, and those that it comes to by CALLs, name no gate that stands for another.
func callsNoOther(m api.Module, gate int) bool {
	comps := []int{m.Image.Gates[gate].Comp}
	for k := 0; k < len(comps); k++ {
		for _, i := range m.Image.Comps[comps[k]].Code {
			if i.Op != api.CALL {
				continue
			}
			if needAt(m, i.Imm) != "" {
				return false
			}
			if to := m.Image.Gates[i.Imm].Comp; !slices.Contains(comps, to) {
				comps = append(comps, to)
			}
		}
	}
	return true
}

func isEntry(g api.Gate) bool {
	return !slices.ContainsFunc(g.Args, func(t api.Type) bool { return t.Cap })
}

// tally counts how runs ended.
type tally struct {
	ends      map[api.End]int
	elsewhere int // in the code of another gate
	touch     int
}

func (c *tally) count(gate int, r api.Result) {
	c.ends[r.Outcome.End]++
	if r.Outcome.Gate != gate {
		c.elsewhere++
	}
	if len(r.Touches) > 1 {
		c.touch++
	}
}

func (c *tally) check(t *testing.T, ends ...api.End) {
	t.Helper()
	for _, end := range ends {
		if c.ends[end] < 20 {
			t.Errorf("%d runs end so: %d; the dice are too narrow", c.ends[end], end)
		}
	}
	if c.ends[api.Faulted] > 0 || c.elsewhere < 50 || c.touch < 100 {
		t.Errorf("%d runs faulted, %d ended elsewhere, %d touched something", c.ends[api.Faulted], c.elsewhere, c.touch)
	}
}

// TestLinkedIsAsAlone: runs from each gate that comes to nothing that stands for others, in each order, on both machines.
func TestLinkedIsAsAlone(t *testing.T) {
	t.Parallel()
	seen := tally{ends: map[api.End]int{}}
	deeper := 0
	for seed := range uint64(60) {
		d := rolled(4000 + seed)
		l := d.taken()
		for _, o := range orders(len(l)) {
			x := ordered(l, o)
			whole := linked(t, "a family", x...)
			p := loaded(t, fmt.Sprintf("the family %d", seed), whole.Image)
			for k, m := range x {
				one := loaded(t, "a module", m.Image)
				for gate, g := range m.Image.Gates {
					number := toldAnew(x, place{k, gate})
					if needAt(m, gate) != "" || !isEntry(g) || !callsNoOther(m, gate) {
						continue
					}
					b := begun{d.numbers(len(g.Args)), d.numbers(d.IntN(5)), of(d, 0, 10, 200, 200, 200)}
					alone := ran(t, "alone", one, gate, b)
					if alone.Outcome.End == api.Overflow && whole.Image.Depth > m.Image.Depth {
						deeper++
						continue
					}
					seen.count(gate, alone)
					alone.Outcome.Gate = toldAnew(x, place{k, alone.Outcome.Gate})
					if r := ran(t, "linked", p, number, b); !sameResult(r, alone) {
						t.Fatalf("17.4: the family %d as %v, the gate %d of %d, with %+v: %+v, alone %+v", seed, o, gate, k, b, r, alone)
					}
				}
			}
		}
	}
	seen.check(t, api.Halted, api.Guarded, api.Trapped, api.Spent, api.Overflow, api.Starved)
	if deeper < 20 {
		t.Errorf("%d runs may go deeper: the dice are too narrow", deeper)
	}
}

// TestOrderOfModules: by their places in their modules, gates do the same in each order, whatever they come to.
func TestOrderOfModules(t *testing.T) {
	t.Parallel()
	seen := tally{ends: map[api.End]int{}}
	for seed := range uint64(40) {
		d := rolled(5000 + seed)
		l := d.taken()
		first := loaded(t, "a family", linked(t, "a family", l...).Image)
		for _, o := range orders(len(l)) {
			x := ordered(l, o)
			p := loaded(t, "a family", linked(t, "a family", x...).Image)
			for gate, at := range places(l) {
				g := l[at.module].Image.Gates[at.gate]
				if !isEntry(g) {
					continue
				}
				b := begun{d.numbers(len(g.Args)), d.numbers(d.IntN(5)), of(d, 10, 200, 200)}
				want := ran(t, "the first order", first, gate, b)
				seen.count(gate, want)
				moved := func(gate int) int {
					at := places(l)[gate]
					return toldAnew(x, place{slices.Index(o, at.module), at.gate})
				}
				want.Outcome.Gate = moved(want.Outcome.Gate)
				if r := ran(t, "another order", p, moved(gate), b); !sameResult(r, want) {
					t.Fatalf("17.4: the family %d as %v, the gate %d, with %+v: %+v, want %+v", seed, o, gate, b, r, want)
				}
			}
		}
	}
	seen.check(t, api.Halted, api.Guarded, api.Trapped, api.Spent, api.Overflow, api.Starved)
}

// TestByNames: the gates of one name do the same in each order.
func TestByNames(t *testing.T) {
	fib := module(t, "depth 16;comp;li r2 2;blt r1 r2 small;addi r1 r1 -1;mov r5 r1;call 1;mov r4 r1;addi r1 r5 -1;call 1;call 2;add r1 r1 r4;small: out r1;ret;gate fib 0 0 int -> int;gate a 0 11 int -> int;gate b 0 11 int -> int",
		"fib =again =same")
	again := module(t, "depth 3;comp;call 1;ret;gate again 0 0 int -> int;gate fib 0 1 int -> int", "again =fib")
	keep := module(t, "depth 2;region 0 16 bytes #01;comp;root r8 0 16 0 rw 0;lb r2 r8 0;addi r2 r2 1;sb r2 r8 0;ret;lb r1 r8 0;halt r1;gate same 0 0 int -> int;gate told 0 4 ->", "same told")
	l := []api.Module{fib, again, keep}
	var want api.Result
	for k, o := range orders(3) {
		m := linked(t, "fib", ordered(l, o)...)
		r := ran(t, "fib", loaded(t, "fib", m.Image), slices.Index(m.Names, "fib"), begun{args: []uint64{7}, fuel: 10000})
		if r.Outcome.End != api.Halted || r.Outcome.Value != 13 || m.Names[r.Outcome.Gate] != "fib" {
			t.Errorf("17.4: fib of 7, as %v: %+v", o, r.Outcome)
		}
		r.Outcome.Gate = 0
		if k == 0 {
			want = r
		}
		if len(r.Out) < 40 || len(r.Touches) < 40 || !sameResult(r, want) {
			t.Errorf("17.4: fib of 7, as %v: %+v, want %+v", o, r, want)
		}
	}
}

// TestDeeper: a run that ended Overflow alone may go on in the whole, where the depth is greater; else it ends so there, too.
func TestDeeper(t *testing.T) {
	m := module(t, "depth 2;comp;out r1;addi r1 r1 1;call 0;ret;gate g 0 0 int ->", "deep")
	b := begun{args: []uint64{0}, fuel: 1000}
	for depth := 1; depth <= 16; depth++ {
		other := plain(t, "-")
		other.Image.Depth = depth
		for k, l := range [][]api.Module{{m, other}, {other, m}} {
			x := linked(t, "deep", l...)
			r := ran(t, "deep", loaded(t, "deep", x.Image), k, b)
			if r.Outcome != (api.Outcome{End: api.Overflow, Gate: k, Pc: 2}) || len(r.Out) != 1+max(2, depth) {
				t.Errorf("17.4: beside the depth %d: %+v, %d outputs", depth, r.Outcome, len(r.Out))
			}
		}
	}
}

// TestCompiled: of the small language, each source by itself.
func TestCompiled(t *testing.T) {
	compiled := func(source, gates string) api.Module {
		p, e, line := lang.Compile(source)
		if e != api.OK {
			t.Fatalf("Compile: %d, line %d", e, line)
		}
		return api.Module{Image: p, Names: module(t, textA, gates).Names, Needs: module(t, textA, gates).Needs}
	}
	a := compiled("comp main { fn run(n) { let t = twice(n) let u = twice(t) return u } }\ncomp other { fn twice(n) { return 0 } }\n", "run =twice")
	b := compiled("comp lib { fn twice(n) { out n return n + n } }\n", "twice")
	for _, l := range [][]api.Module{{a, b}, {b, a}} {
		m := linked(t, "sources", l...)
		r := ran(t, "sources", loaded(t, "sources", m.Image), slices.Index(m.Names, "run"), begun{args: []uint64{5}, fuel: 1000})
		if r.Outcome.End != api.Halted || r.Outcome.Value != 20 || !slices.Equal(r.Out, []uint64{5, 10}) {
			t.Errorf("17.4: run of 5: %+v", r)
		}
	}
}

// TestLentMemory: what a module lends another is touched there, and memory stands where it stood.
func TestLentMemory(t *testing.T) {
	cap32 := "cap 32 64 32 63 rw 0"
	a := module(t, "depth 1;region 32 32 bytes #0506;comp;root r8 32 64 32 rw 0;cinci r1 r8 1;call 1;lb r2 r8 1;halt r2;ret;gate main 0 0 ->;gate inc 0 4 "+cap32+" ->", "main =inc")
	b := module(t, "depth 1;region 0 16 bytes #63;region 32 32 bytes;comp;root r9 0 16 0 rw 0;glt r0 1 0;lb r2 r1 0;addi r2 r2 1;sb r2 r1 0;lb r3 r9 0;out r3;ret;gate inc 0 0 cap 32 64 32 63 rw 0 ->", "inc")
	checkNoLink(t, "both have the memory", api.ErrRegion, 1, a, b)
	b.Image.Regions = b.Image.Regions[:1]
	if isTaken(b.Image) {
		t.Errorf("11.2: a store beyond a module's own regions is taken")
	}
	m := linked(t, "lent", a, b)
	if e := image.Right(m.Image); e != api.OK {
		t.Fatalf("17.4: %d", e)
	}
	r := ran(t, "lent", loaded(t, "lent", m.Image), 0, begun{fuel: 100})
	want := []api.Touch{{Addr: 33, Size: 1}, {Store: true, Addr: 33, Size: 1}, {Addr: 0, Size: 1}, {Addr: 33, Size: 1}}
	if r.Outcome != (api.Outcome{End: api.Halted, Value: 7, Pc: 3}) || !slices.Equal(r.Out, []uint64{99}) || !slices.Equal(r.Touches, want) {
		t.Errorf("17.3: lent: %+v", r)
	}
}
