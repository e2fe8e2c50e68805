package thread_test

import (
	"fmt"
	"slices"
	"strings"
	"testing"

	"paddock/api"
	"paddock/asm"
	"paddock/capmachine"
	"paddock/checker"
	"paddock/erase"
	"paddock/lang"
	"paddock/thread"
	"paddock/trim"
)

// parse reads a program, in whose text a semicolon stands for the end of a line.
func parse(t testing.TB, text string) api.Image {
	t.Helper()
	m, e, line := asm.Parse(strings.ReplaceAll(text, ";", "\n"))
	if e != api.OK {
		t.Fatalf("a text is wrong in line %d: %d\n%s", line, e, text)
	}
	return m
}

// left is what is left of a program that the checker takes.
func left(t testing.TB, m api.Image) api.Program {
	t.Helper()
	p, ok := erase.Program(m, checker.Check(m))
	if !ok {
		t.Fatalf("it is not taken")
	}
	return p
}

// checkFirst follows the first machine step by step, and holds each place against a Run with just so much fuel; at last it answers what came of it.
func checkFirst(t *testing.T, what string, m api.Image, gate int, args, inputs []uint64, fuel int) api.Result {
	t.Helper()
	x, e := capmachine.New(m, gate, args, inputs)
	if e != api.OK {
		t.Fatalf("%s: a run may not begin: %d", what, e)
	}
	c := thread.Compile(left(t, m))
	var o api.Outcome
	for step := range fuel + 1 {
		s := x.Snap()
		want := api.Result{Outcome: o, Out: x.Out(), Touches: x.Touches()}
		if o.End == api.Running {
			want.Outcome = api.Outcome{End: api.Spent, Gate: s.Gate, Pc: s.Pc}
		}
		if got := ran(t, c, gate, args, inputs, step); !same(got, want) {
			t.Fatalf("23.4: %s, with fuel %d: %+v, on the first machine %+v", what, step, got, want)
		}
		if o.End != api.Running || step == fuel {
			break
		}
		o = x.Step()
	}
	got := ran(t, c, gate, args, inputs, fuel)
	if want := (api.Result{Outcome: x.Run(0), Out: x.Out(), Touches: x.Touches()}); !same(got, want) {
		t.Fatalf("23.4: %s: %+v, on the first machine %+v", what, got, want)
	}
	return got
}

const reading = "depth 1;region 0 32 bytes #05060708;comp;root r8 0 32 0 r 0;in r1;glt r1 32 9;cinc r2 r8 r1;lb r3 r2 0;halt r3;gate main 0 0 ->"

// TestExamplesOfTheWhole: those that are taken; what the document says comes of each.
func TestExamplesOfTheWhole(t *testing.T) {
	for _, c := range []struct {
		name, text   string
		args, inputs []uint64
		fuel         int
		want         api.Result
		rows         []int
	}{
		{"1", reading, nil, []uint64{2}, 99, api.Result{Outcome: halted(7, 4), Touches: []api.Touch{load(2, 1)}}, []int{1}},
		{"1, with 40", reading, nil, []uint64{40}, 99, result(ended(api.Guarded, 9, 1)), []int{1}},
		{"1, without an input", reading, nil, nil, 99, result(ended(api.Starved, 0, 0)), []int{1}},
		{"3", "depth 1;region 0 32 bytes #05060708;comp;root r8 0 32 0 r 0;li r1 0;li r2 0;li r3 4;next: bge r2 r3 done;glt r2 32 9;cinc r4 r8 r2;lb r5 r4 0;add r1 r1 r5;addi r2 r2 1;jmp next;done: halt r1;gate main 0 0 ->",
			nil, nil, 99, api.Result{Outcome: halted(26, 10), Touches: []api.Touch{load(0, 1), load(1, 1), load(2, 1), load(3, 1)}}, []int{4}},
		{"4", "depth 2;region 0 32 bytes #01020304;comp;root r8 0 32 0 rw 0;candp r1 r8 r;call peek;halt r1;comp;lb r1 r1 3;ret;gate main 0 0 ->;gate peek 1 0 cap 0 32 0 0 r 0 -> int",
			nil, nil, 99, api.Result{Outcome: halted(4, 2), Touches: []api.Touch{load(3, 1)}}, []int{2, 1}},
		{"5", "depth 2;region 0 16 bytes #2a;comp;root r8 0 16 0 r 0;root r9 0 16 5 s 0;cseal r1 r8 r9;call keep;halt r1;comp;root r10 0 16 5 u 0;cunseal r2 r1 r10;lb r1 r2 0;ret;gate main 0 0 ->;gate keep 1 0 cap 0 16 0 0 r 5 -> int",
			nil, nil, 99, api.Result{Outcome: halted(42, 2), Touches: []api.Touch{load(0, 1)}}, []int{2, 1}},
		{"6", "depth 1;region 0 16 bytes #07;region 16 32 slots;slot cap 0 16 0 15 rw 0 at 0;slot cap 0 16 0 15 rw 0 at 9;comp;root r8 16 48 16 cd 0;lc r1 r8 0;lc r2 r8 16;sc r1 r8 16;lc r3 r8 16;csame r4 r1 r3;cbase r5 r2;caddr r6 r3;out r4;out r5;out r6;halt r0;gate main 0 0 ->",
			nil, nil, 99, api.Result{Outcome: halted(0, 10), Out: []uint64{1, 0, 0}, Touches: []api.Touch{load(16, 16), load(32, 16), store(32, 16), load(32, 16)}}, []int{1}},
		{"7", "depth 1;comp;cpc r1 3;jc r1;trap 7;ctag r2 r1;halt r2;gate main 0 0 ->", nil, nil, 99, result(halted(1, 4)), []int{3}},
		{"8", "depth 3;comp;addi r1 r1 1;out r1;call main;ret;gate main 0 0 int ->", []uint64{0}, nil, 99, result(ended(api.Overflow, 0, 2), 1, 2, 3, 4), []int{2}},
		{"8, with fuel 5", "depth 3;comp;addi r1 r1 1;out r1;call main;ret;gate main 0 0 int ->", []uint64{0}, nil, 5, result(spent(2), 1, 2), []int{2}},
		{"9", "depth 1;comp;top: jmp top;gate main 0 0 ->", nil, nil, 99, result(spent(0)), []int{1}},
	} {
		m := parse(t, c.text)
		got := checkFirst(t, "Example "+c.name, m, 0, c.args, c.inputs, c.fuel)
		checkResult(t, "Example "+c.name, got, c.want)
		code := thread.Compile(left(t, m))
		for gate, want := range append(c.rows, 0) {
			if n := code.Blocks(gate); n != want {
				t.Errorf("23.3: Example %s: Blocks(%d) is %d, want %d", c.name, gate, n, want)
			}
		}
	}
}

// TestExampleTen: the first example of chapter 15, and that of an index which is too great.
func TestExampleTen(t *testing.T) {
	m, e, line := lang.Compile(`words a 8
comp main uses a {
  fn fill(n) { let i = 0 while i < n { a[i] = i * i i = i + 1 } let t = sum(a) return t }
}
comp other {
  fn sum(p: reads a) { let i = 0 let s = 0 while i < 8 { s = s + p[i] i = i + 1 } return s }
}
`)
	if e != api.OK {
		t.Fatalf("Compile: %d, line %d", e, line)
	}
	r := checkFirst(t, "Example 10", m, 0, []uint64{4}, nil, 999)
	loads := slices.DeleteFunc(slices.Clone(r.Touches), func(x api.Touch) bool { return x.Store })
	if r.Outcome.End != api.Halted || r.Outcome.Value != 14 || len(r.Out) != 0 || len(r.Touches) != 12 || len(loads) != 8 || r.Touches[0] != store(r.Touches[4].Addr, 8) {
		t.Errorf("23.4: Example 10: %+v", r)
	}
	if r = checkFirst(t, "Example 10, with 9", m, 0, []uint64{9}, nil, 999); r.Outcome.End != api.Guarded || r.Outcome.Value != 255 {
		t.Errorf("23.4: Example 10, with 9: %+v", r)
	}
}

// What the dice's programs have in memory, and to begin with: bytes, places of capabilities, and registers for both.
const (
	ground = "depth 1;region 0 64 bytes #0102030405;region 64 32 slots;slot cap 0 64 0 63 r 0 at 5;slot cap 0 64 0 63 r 0 at 6;region 65520 16 bytes #2a;"
	roots  = "root r8 0 64 0 rw 0;root r9 64 96 64 cd 0;root r10 0 64 7 r 0;root r11 0 64 40 r 0;root r12 65520 65536 65520 rw 0;"
)

// capInst is an instruction of a code of so many that is sure not to fault, where there are so many gates of integers alone, and the roots are those of ground; in r0 to r5 there are never any but integers.
func (d dice) capInst(size, gates int) api.Inst {
	a, b, c := d.IntN(6), d.IntN(6), d.IntN(6)
	switch d.IntN(16) {
	case 0, 1:
		return of(d, api.Inst{Op: api.SB, A: a, B: 8, Imm: d.IntN(64)}, api.Inst{Op: api.SW, A: a, B: 8, Imm: d.IntN(57)}, api.Inst{Op: api.SB, A: a, B: 12, Imm: d.IntN(16)})
	case 2:
		return of(d, api.Inst{Op: api.SC, A: 10 + d.IntN(2), B: 9, Imm: 16 * d.IntN(2)}, api.Inst{Op: api.LC, A: 6, B: 9, Imm: 16})
	case 3, 4:
		return of(d, api.Inst{Op: api.LB, A: a, B: 8, Imm: d.IntN(64)}, api.Inst{Op: api.LW, A: a, B: 8, Imm: d.IntN(57)}, api.Inst{Op: api.LB, A: a, B: 12, Imm: d.IntN(16)})
	case 5:
		return api.Inst{Op: api.LI, A: a, Imm: d.IntN(9) - 2}
	case 6:
		return api.Inst{Op: of(d, api.ADD, api.SUB, api.MUL, api.AND, api.OR, api.XOR, api.SHL, api.SHR, api.SLT, api.SEQ), A: a, B: b, C: c}
	case 7:
		return of(d, api.Inst{Op: api.ADDI, A: a, B: b, Imm: d.IntN(9) - 3}, api.Inst{Op: api.MOV, A: a, B: b})
	case 8, 9:
		return api.Inst{Op: of(d, api.BEQ, api.BNE, api.BLT, api.BGE), A: a, B: b, Imm: d.IntN(size)}
	case 10:
		return api.Inst{Op: api.CALL, Imm: d.IntN(gates)}
	case 11:
		return of(d, api.Inst{Op: api.GLT, A: a, C: d.IntN(256), Imm: of(d, 9, 1<<31-1)}, api.Inst{Op: api.GGE, A: a, C: d.IntN(256), Imm: d.IntN(2)}, api.Inst{Op: api.GTAG, A: of(d, a, 8), C: 3})
	case 12:
		return of(d, api.Inst{Op: api.CADDR, A: a, B: 8 + d.IntN(5)}, api.Inst{Op: api.CBASE, A: a, B: 12}, api.Inst{Op: api.CSAME, A: a, B: 8, C: 10}, api.Inst{Op: api.CTAG, A: a, B: of(d, b, 9)}, api.Inst{Op: api.CINC, A: 7, B: 8, C: c})
	case 13:
		return of(d, api.Inst{Op: api.JMP, Imm: d.IntN(size)}, api.Inst{Op: api.IN, A: a})
	case 14:
		return api.Inst{Op: of(d, api.IN, api.OUT, api.OUT), A: a}
	}
	return of(d, api.Inst{Op: api.RET}, api.Inst{Op: api.RET}, api.Inst{Op: api.HALT, A: a}, api.Inst{Op: api.TRAP, Imm: d.IntN(256)})
}

// image is a program that is taken, mostly: of two compartments, which share all of memory.
func (d dice) image(m api.Image) api.Image {
	roots := m.Comps[0].Roots
	m = api.Image{Depth: 1 + d.IntN(3), Regions: m.Regions}
	gates := 2 + d.IntN(3)
	for range 2 {
		var code []api.Inst
		size := 4 + d.IntN(20)
		for len(code) < size-1 {
			code = append(code, d.capInst(size, gates))
		}
		code = append(code, of(d, api.Inst{Op: api.JMP}, api.Inst{Op: api.JMP}, api.Inst{Op: api.RET}, api.Inst{Op: api.HALT, A: 1}))
		m.Comps = append(m.Comps, api.Comp{Roots: roots, Code: code})
	}
	for k := range gates {
		g := api.Gate{Comp: k % 2, Args: make([]api.Type, d.IntN(4)), Results: make([]api.Type, d.IntN(3))}
		if d.oneIn(2) {
			g.Entry = d.IntN(len(m.Comps[g.Comp].Code))
		}
		m.Gates = append(m.Gates, g)
	}
	return m
}

// TestTheFirstMachine: programs that are taken, and what layer 19 makes of them, do what they do on the first machine, step by step.
func TestTheFirstMachine(t *testing.T) {
	t.Parallel()
	ends := map[api.End]int{}
	taken, long := 0, 0
	begin := parse(t, ground+"comp;"+roots+"ret;gate g 0 0 ->")
	for seed := range uint64(250) {
		d := rolled(600_000 + seed)
		m := d.image(begin)
		if checker.Check(m).Reason != api.Fine {
			continue
		}
		taken++
		if z, ok := trim.Trim(m); ok && d.oneIn(2) {
			m = z
		}
		for gate, g := range m.Gates {
			r := checkFirst(t, fmt.Sprintf("program %d", seed), m, gate, d.numbers(len(g.Args)), d.numbers(d.IntN(12)), 120)
			ends[r.Outcome.End]++
			if len(r.Out)+len(r.Touches) > 20 {
				long++
			}
		}
	}
	for _, end := range []api.End{api.Halted, api.Guarded, api.Trapped, api.Spent, api.Overflow, api.Starved} {
		if ends[end] < 20 {
			t.Errorf("23.4: the end %d came %d times: the programs are too narrow", end, ends[end])
		}
	}
	if taken < 150 || long < 50 || ends[api.Faulted] > 0 {
		t.Errorf("23.4: %d programs were taken, %d runs were long, %d faulted", taken, long, ends[api.Faulted])
	}
}
