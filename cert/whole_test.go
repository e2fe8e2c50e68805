package cert_test

import (
	"slices"
	"strings"
	"testing"

	"paddock/api"
	"paddock/checker"
	"paddock/fastvm"
	"paddock/lang"
)

const (
	reading = "depth 1;region 0 32 bytes #05060708;comp;root r8 0 32 0 r 0;in r1;%cinc r2 r8 r1;lb r3 r2 0;halt r3;gate main 0 0 ->"
	summing = "depth 1;region 0 32 bytes #05060708;comp;root r8 0 32 0 r 0;li r1 0;li r2 0;li r3 4;next: bge r2 r3 done;glt r2 32 9;cinc r4 r8 r2;lb r5 r4 0;add r1 r1 r5;addi r2 r2 1;jmp next;done: halt r1;gate main 0 0 ->"
	lending = "depth 2;region 0 32 bytes #01020304;comp;root r8 0 32 0 rw 0;candp r1 r8 r;call peek;halt r1;comp;lb r1 r1 3;ret;gate main 0 0 ->;gate peek 1 0 cap 0 32 0 0 r 0 -> int"
	sealing = "depth 2;region 0 16 bytes #2a;comp;root r8 0 16 0 r 0;root r9 0 16 5 s 0;cseal r1 r8 r9;call keep;halt r1;comp;root r10 0 16 5 u 0;cunseal r2 r1 r10;lb r1 r2 0;ret;gate main 0 0 ->;gate keep 1 0 cap 0 16 0 0 r 5 -> int"
	placing = "depth 1;region 0 16 bytes #07;region 16 32 slots;slot cap 0 16 0 15 rw 0 at 0;slot cap 0 16 0 15 rw 0 at 9;comp;root r8 16 48 16 cd 0;lc r1 r8 0;lc r2 r8 16;sc r1 r8 16;lc r3 r8 16;csame r4 r1 r3;cbase r5 r2;caddr r6 r3;out r4;out r5;out r6;halt r0;gate main 0 0 ->"
	going   = "depth 1;comp;cpc r1 3;jc r1;trap 7;ctag r2 r1;halt r2;gate main 0 0 ->"
	calling = "depth 3;comp;addi r1 r1 1;out r1;call main;ret;gate main 0 0 int ->"
	round   = "depth 1;comp;top: jmp top;gate main 0 0 ->"
)

// instead is a text in which something else stands for a part.
func instead(text, part, other string) string { return strings.Replace(text, part, other, 1) }

// TestWholeTaken: the examples of the whole that are taken: their certificates, and what comes of the Table's Program.
func TestWholeTaken(t *testing.T) {
	rootless := at(0).with(8, single(0)).with(9, single(0))
	readable := but(pointing(0, 0), func(r *api.RType) { r.Must, r.May = api.Load, api.Load })
	next := at(3, anyInt(), anyInt(), single(4), nothing(), integer(0, 255)).with(8, readable).with(9, single(0))
	for _, c := range []struct {
		name, text   string
		cert         string
		args, inputs []uint64
		want         api.Outcome
	}{
		{"1", instead(reading, "%", "glt r1 32 9;"), certificate(row()), nil, []uint64{2}, api.Outcome{End: api.Halted, Value: 7, Pc: 4}},
		{"1, with 40", instead(reading, "%", "glt r1 32 9;"), certificate(row()), nil, []uint64{40}, api.Outcome{End: api.Guarded, Value: 9, Pc: 1}},
		{"1, without an input", instead(reading, "%", "glt r1 32 9;"), certificate(row()), nil, nil, api.Outcome{End: api.Starved}},
		{"3", summing, certificate(row(next)), nil, nil, api.Outcome{End: api.Halted, Value: 26, Pc: 10}},
		{"4", lending, certificate(row(), row()), nil, nil, api.Outcome{End: api.Halted, Value: 4, Pc: 2}},
		{"5", sealing, certificate(row(), row()), nil, nil, api.Outcome{End: api.Halted, Value: 42, Pc: 2}},
		{"6", placing, certificate(row()), nil, nil, api.Outcome{End: api.Halted, Pc: 10}},
		{"7", going, certificate(row()), nil, nil, api.Outcome{End: api.Halted, Value: 1, Pc: 4}},
		{"8", calling, certificate(row()), []uint64{0}, nil, api.Outcome{End: api.Overflow, Pc: 2}},
		{"9", round, certificate(row(rootless)), nil, nil, api.Outcome{End: api.Spent}},
	} {
		m := parse(t, c.text)
		checkMake(t, "example "+c.name, m, c.cert)
		checkFollows(t, m, c.cert, []begin{{0, c.args, c.inputs}}, map[api.End]int{})
		x, e := fastvm.New(bare(t, m, table(t, m, c.cert)), 0, c.args, c.inputs)
		if o := x.Run(1000); e != api.OK || o != c.want {
			t.Errorf("22.5: example %s: %+v, want %+v", c.name, o, c.want)
		}
	}
}

// TestWholeRefused: those that are refused have no certificate, and nothing that is said shows them; by one that says nothing it shows where the checker refuses them.
func TestWholeRefused(t *testing.T) {
	for _, c := range []struct {
		name, text string
		gate, pc   int
	}{
		{"2", instead(reading, "%", ""), 0, 2},
		{"4, sb for lb", instead(lending, "lb r1 r1 3", "sb r0 r1 3"), 1, 0},
		{"4, mov for candp", instead(lending, "candp r1 r8 r", "mov r1 r8"), 0, 1},
		{"5, not opened", instead(sealing, "root r10 0 16 5 u 0;cunseal r2 r1 r10;lb r1 r2 0", "lb r1 r1 0"), 1, 0},
		{"9, addi alone", instead(round, "top: jmp top", "addi r1 r1 1"), 0, 0},
	} {
		m := parse(t, c.text)
		checkRefused(t, "example "+c.name, m, api.ErrCheck)
		nothing := slices.Repeat([]string{row()}, len(m.Gates))
		checkVerify(t, "example "+c.name, m, certificate(nothing...), api.ErrProve, c.gate, c.pc)
		for _, s := range rolled(13).certificates(m, 300) {
			if v := against(t, m, s); v.e != api.ErrProve {
				t.Fatalf("22.5: example %s: %d, by\n%s", c.name, v.e, told(m, s))
			}
		}
	}
}

// TestWholeLanguage: example 10: what Compile makes has a certificate, and runs by it.
func TestWholeLanguage(t *testing.T) {
	m, e, line := lang.Compile(`words a 8
comp main uses a {
  fn fill(n) { let i = 0 while i < n { a[i] = i * i i = i + 1 } let t = sum(a) return t }
}
comp other {
  fn sum(p: reads a) { let i = 0 let s = 0 while i < 8 { s = s + p[i] i = i + 1 } return s }
}
`)
	if e != api.OK {
		t.Fatalf("Compile: %d, line %d", e, line)
	}
	s := made(t, m)
	if s != saying(kept(m, checker.Check(m).Table)) || len(s) < 500 {
		t.Errorf("22.2: example 10: %s", told(m, s))
	}
	checkShows(t, "example 10", m, s)
	checkVerify(t, "example 10, nothing said of the called one", m, certificate(firstRow(t, m, s), row()), api.ErrProve, 1, lastBack(t, m, 1))
	checkFollows(t, m, s, []begin{{0, []uint64{4}, nil}, {0, []uint64{9}, nil}}, map[api.End]int{})
	x, e := fastvm.New(bare(t, m, table(t, m, s)), 0, []uint64{4}, nil)
	if o := x.Run(1000); e != api.OK || o.End != api.Halted || o.Value != 14 || len(x.Touches()) != 12 {
		t.Errorf("22.5: example 10: %+v, %d touches", o, len(x.Touches()))
	}
}

// firstRow is what a certificate says for the first gate.
func firstRow(t *testing.T, m api.Image, s string) string {
	t.Helper()
	l, ok := modelRead(m, s)
	if !ok {
		t.Fatalf("22.1: it is no certificate")
	}
	var said []says
	for pc := range m.Comps[m.Gates[0].Comp].Code {
		if state, speaks := l[0][pc]; speaks {
			said = append(said, says{pc, state.Regs})
		}
	}
	return row(said...)
}

// lastBack is the one instruction of a gate's compartment that goes back, by its text.
func lastBack(t *testing.T, m api.Image, gate int) int {
	t.Helper()
	for pc, i := range m.Comps[m.Gates[gate].Comp].Code {
		if i.Op >= api.JMP && i.Op <= api.BGE && i.Imm <= pc {
			return pc
		}
	}
	t.Fatalf("nothing goes back")
	return 0
}
