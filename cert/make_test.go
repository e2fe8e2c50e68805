package cert_test

import (
	"testing"

	"paddock/api"
	"paddock/cert"
	"paddock/checker"
)

// code is the capability of an instruction, where there are so many.
func code(size, pc uint64) api.RType {
	one := func(n uint64) api.Span { return api.Span{Lo: n, Hi: n} }
	return api.RType{Kind: api.ACap, Base: one(api.CodeBase), End: one(api.CodeBase + size*api.Width), Point: one(api.CodeBase + pc*api.Width), Must: api.Exec, May: api.Exec}
}

// TestMakeNothingBack: of code without a way back, or whose ways back are never gone.
func TestMakeNothingBack(t *testing.T) {
	for _, c := range []string{
		"ret", "trap 3", "halt r1", "in r1;out r1;ret",
		"jmp 2;trap 1;jmp 3;ret",
		"in r1;beq r1 r0 4;li r2 1;jmp 5;li r2 2;halt r2",
		// A branch to the next one.
		"in r1;beq r1 r0 2;ret", "cpc r6 2;jc r6;ret",
		// Nobody comes to the ways back.
		"ret;jmp 0", "trap 1;a: jmp a", "jmp 3;in r1;bne r1 r0 1;ret", "halt r0;cpc r6 0;jc r6",
		// They are never gone.
		"li r1 1;a: in r2;beq r1 r0 a;halt r2", "a: bne r0 r0 a;ret", "li r1 5;in r2;a: glt r2 5 0;bge r2 r1 a;ret",
		"li r1 9;glt r1 9 0;jmp 0", "gge r0 1 0;jmp 0", "gtag r1 0;jmp 0", "gseal r8 3 0;jmp 0",
	} {
		checkMake(t, c, alone(t, c), certificate(row()))
	}
}

// TestMakeStates: what is gone back to, and what is known there; reckoned by hand.
func TestMakeStates(t *testing.T) {
	anywhere := pointing(0, top)
	either := api.RType{Kind: api.ACap, End: api.Span{Lo: 64, Hi: 64}, Point: api.Span{Lo: 0, Hi: 5}, Must: api.Load, May: rw, Seal: -1}
	for _, c := range []struct {
		code string
		want []says
	}{
		// To itself.
		{"jmp 0", []says{at(0)}},
		{"in r1;jmp 1", []says{at(1, anyInt())}},
		{"in r1;bne r1 r0 1;halt r1", []says{at(1, anyInt())}},
		{"cpc r6 1;jc r6", []says{at(1).with(6, code(2, 1))}},
		// To the entry, and to one behind it.
		{"out r1;jmp 0", []says{at(0)}},
		{"in r1;jmp 0", []says{at(0, anyInt())}},
		{"li r1 7;in r2;jmp 1", []says{at(1, single(7), anyInt())}},
		{"in r1;glt r1 9 0;in r2;jmp 1", []says{at(1, anyInt(), anyInt())}},
		{"in r1;glt r1 9 0;gge r1 3 0;a: in r2;jmp a", []says{at(3, integer(3, 8), anyInt())}},
		// To one, from several.
		{"a: in r1;beq r1 r0 a;in r2;beq r2 r0 a;jmp a", []says{at(0, anyInt(), anyInt())}},
		{"li r3 1;a: in r1;bne r1 r0 a;in r2;bne r2 r0 a;ret", []says{at(1, anyInt(), anyInt(), single(1))}},
		// To two.
		{"a: in r1;b: beq r1 r0 a;in r2;bne r2 r0 b;ret", []says{at(0, single(0), anyInt()), at(1, anyInt(), anyInt())}},
		// Rounds in rounds.
		{"li r1 8;a: li r2 8;b: addi r2 r2 -1;bne r2 r0 b;addi r1 r1 -1;bne r1 r0 a;ret", []says{at(1, anyInt(), single(0)), at(2, anyInt(), anyInt())}},
		{"a: b: in r1;bne r1 r0 b;in r2;bne r2 r0 a;halt r2", []says{at(0, anyInt(), anyInt())}},
		{"a: in r1;b: in r2;c: in r3;bne r3 r0 c;bne r2 r0 b;bne r1 r0 a;ret", []says{at(0, anyInt(), single(0), single(0)), at(1, anyInt(), anyInt(), single(0)), at(2, anyInt(), anyInt(), anyInt())}},
		// By a JC.
		{"cpc r6 1;in r1;beq r1 r0 4;jc r6;halt r1", []says{at(1, anyInt()).with(6, code(5, 1))}},
		{"a: cpc r6 a;in r1;beq r1 r0 4;jc r6;ret", []says{at(0, anyInt()).with(6, nothing())}},
		// Backwards, to what can be come to in no other way.
		{"jmp 3;out r1;ret;li r1 4;jmp 1", []says{at(1, single(4))}},
		{"jmp 5;a: out r1;jmp 3;b: out r2;ret;li r1 1;in r2;bne r2 r0 b;jmp a", []says{at(1, single(1), single(0)), at(3, single(1), anyInt())}},
		// What is known of capabilities.
		{"mov r6 r8;a: cinci r6 r6 1;in r1;bne r1 r0 a;ret", []says{at(1, anyInt()).with(6, anywhere)}},
		{"mov r6 r8;a: mov r7 r6;in r1;bne r1 r0 a;ret", []says{at(1, anyInt()).with(6, pointing(0, 0)).with(7, nothing())}},
		{"a: in r1;beq r1 r0 b;mov r6 r8;jmp a;b: ret", []says{at(0, anyInt()).with(6, nothing())}},
		{"lc r6 r9 0;a: in r1;beq r1 r0 b;lc r6 r9 16;jmp a;b: ret", []says{at(1, anyInt()).with(6, either)}},
		{"cinci r6 r8 4;a: candp r6 r6 r;in r1;bne r1 r0 a;ret", []says{at(1, anyInt()).with(6, but(pointing(4, 4), func(r *api.RType) { r.Must = api.Load }))}},
		// What is widened, and what is not.
		{"li r1 3;li r2 0;a: addi r2 r2 1;glt r2 4 0;jmp a", []says{at(2, single(3), integer(0, 3))}},
		{"li r1 3;li r2 0;a: addi r2 r2 1;glt r2 5 0;jmp a", []says{at(2, single(3), anyInt())}},
		// A CALL in a round: the results are known, and no more.
		{"a: call ga;jmp a", []says{at(0)}},
	} {
		m := alone(t, c.code)
		checkMake(t, c.code, m, certificate(row(c.want...)))
		checkMake(t, c.code+", asked again", m, certificate(row(c.want...)))
	}
	m := parse(t, "depth 2;"+regions+"comp;"+held+"a: call f;in r4;jmp a;comp;li r1 7;mov r2 r0;ret;gate g 0 0 ->;gate f 1 0 -> int int")
	checkMake(t, "a CALL with results", m, certificate(row(at(0, anyInt(), anyInt(), single(0), anyInt())), row()))
}

// TestMakeGates: each gate by itself, also those of one compartment; and those that cannot come to what others come to.
func TestMakeGates(t *testing.T) {
	whole := "a: in r1;bne r1 r0 a;b: in r2;bne r2 r0 b;c: in r3;jmp c"
	first, second, third := at(0, anyInt()), at(2, single(0), anyInt()), at(4, single(0), single(0), anyInt())
	m := gated(t, whole, "0 ->", "2 ->", "4 ->", "5 ->", "0 int ->", "2 int int ->", "1 int ->")
	checkMake(t, "gates of one compartment", m, certificate(
		row(first, second, third),
		row(second, third),
		row(third),
		row(third),
		row(first, second, third),
		row(at(2, anyInt(), anyInt()), at(4, anyInt(), single(0), anyInt())),
		// Nobody comes to the instruction 0 but by the way back, which is gone if r1 is not 0.
		row(at(0, integer(1, top)), second, third)))
	m = gated(t, "ret;in r1;jmp 1;halt r1", "0 ->", "1 ->", "3 ->")
	checkMake(t, "some come to the round", m, certificate(row(), row(at(1, anyInt())), row()))
	// By one gate the way back is gone, by the other one never.
	m = gated(t, "a: bne r1 r0 a;ret", "0 ->", "0 int ->")
	checkMake(t, "the same entry", m, certificate(row(), row(at(0, anyInt()))))
	// Compartments of unlike code; a capability that is handed in.
	m = parse(t, "depth 2;"+regions+"comp;jmp 0;comp;"+held+"trap 0;trap 1;a: in r2;lb r3 r1 0;jmp a;gate g 1 2 cap 0 32 0 31 r 0 -> int;gate h 0 0 ->;gate k 1 0 ->")
	lent := but(pointing(0, 31), func(r *api.RType) { r.Must, r.May = api.Load, api.Load })
	bare := at(0).with(8, single(0)).with(9, single(0))
	checkMake(t, "two compartments", m, certificate(row(at(2, lent, anyInt(), integer(0, 255))), row(bare), row()))
	// As many gates as may be.
	var gates, rows []string
	for k := range api.MaxGates {
		gates = append(gates, []string{"0 int ->", "1 ->"}[k%2])
		rows = append(rows, []string{row(at(0, anyInt())), row(at(1))}[k%2])
	}
	checkMake(t, "16 gates", gated(t, "in r1;jmp 0;trap 1", gates[0]), certificate(rows[0]))
	checkMake(t, "16 gates", gated(t, "jmp 0;jmp 1", gates...), certificate(rows...))
}

// TestMakeRefuses: what is not taken, though it is right; also if it would be shown by another certificate.
func TestMakeRefuses(t *testing.T) {
	for _, c := range []string{
		"li r1 1", "lb r1 r1 0;ret", "out r8;ret", "add r1 r8 r1;ret", "in r1;cinc r6 r8 r1;lb r2 r6 0;halt r2", "halt r9", "jc r8",
		"in r1;lb r2 r8 32;jmp 0", "a: in r1;beq r1 r0 a;cbase r1 r1;jmp a",
		"mov r6 r8;a: lb r2 r6 0;cinci r6 r6 1;jmp a",
		mild,
	} {
		m := alone(t, c)
		if !isRight(m) || isTaken(m) {
			t.Fatalf("%s: it is not right, or taken", c)
		}
		checkRefused(t, c, m, api.ErrCheck)
	}
	// One gate alone is refused.
	for k, gates := range [][]string{{"1 ->", "0 ->"}, {"0 ->", "1 ->"}, {"1 ->", "0 ->", "1 ->"}, {"1 ->", "1 ->", "0 ->"}} {
		m := gated(t, "lb r1 r1 0;jmp 1", gates...)
		checkRefused(t, "the gates "+string(rune('0'+k)), m, api.ErrCheck)
	}
	checkRefused(t, "a result", gated(t, "ret", "0 -> cap 0 32 0 0 rw 0"), api.ErrCheck)
}

// mild is code that is not taken, as the checker widens too far; though it never faults.
const mild = "li r1 0;a: cinc r6 r8 r1;lb r2 r6 0;addi r1 r1 1;glt r1 32 7;jmp a"

// TestMakeAgainstModel: of programs of dice, taken and not.
func TestMakeAgainstModel(t *testing.T) {
	t.Parallel()
	check := func(m api.Image) int {
		t.Helper()
		want, e := modelMake(m)
		s, f := cert.Make(m)
		if s != want || f != e {
			t.Fatalf("22.2: Make: %d bytes, %d, want %d, %d, of\n%s", len(s), f, len(want), e, shown(m))
		}
		if again, f := cert.Make(m); again != s || f != e {
			t.Fatalf("22.2: Make, asked again: another answer, of\n%s", shown(m))
		}
		if e != api.OK {
			return -1
		}
		l, ok := modelRead(m, s)
		if !ok {
			t.Fatalf("22.1: what Make makes is no certificate, of\n%s", shown(m))
		}
		checkShows(t, "what Make makes", m, s)
		states := 0
		for _, x := range l {
			states += len(x)
		}
		return states
	}
	without, with, refused, several := 0, 0, 0, 0
	count := func(states int) {
		switch {
		case states < 0:
			refused++
		case states == 0:
			without++
		default:
			with++
		}
		if states > 4 {
			several++
		}
	}
	for _, m := range many() {
		count(check(m))
	}
	for seed := range uint64(600) {
		count(check(rolled(2000 + seed).any()))
	}
	if without < 3 || with < 150 || refused < 200 || several < 100 {
		t.Errorf("of the programs of dice %d had nothing that is gone back to, %d something, %d more than four, %d were refused: the dice are too narrow", without, with, several, refused)
	}
}

// TestMakeIsTheCheckers: each state of what Make makes is that of Check's table, and is gone back to.
func TestMakeIsTheCheckers(t *testing.T) {
	for _, m := range many()[:100] {
		l, ok := modelRead(m, made(t, m))
		r := checker.Check(m)
		if !ok {
			t.Fatalf("22.1: what Make makes is no certificate")
		}
		for gate, x := range l {
			for pc, s := range r.Table[gate] {
				state, speaks := x[pc]
				if speaks != isGoneBackTo(m, gate, pc, r.Table[gate]) || speaks && state != s {
					t.Fatalf("22.2: gate %d, instruction %d: %t, of\n%s", gate, pc, speaks, shown(m))
				}
			}
		}
	}
}
