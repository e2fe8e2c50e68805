package trim_test

import (
	"testing"

	"paddock/api"
	"paddock/checker"
	"paddock/trim"
)

// TestTrim: Pack of Fold, where that is taken.
func TestTrim(t *testing.T) {
	for _, r := range []row{
		{"nothing to be done", "in r2;out r2;ret", "in r2;out r2;ret"},
		{"guards that hold", "gtag r8 1;in r2;glt r2 64 9;glt r2 65 9;cinci r6 r8 -16;cinc r6 r6 r2;gin r12 0 3;lb r3 r6 0;halt r3", "in r2;glt r2 64 9;cinci r6 r8 -16;cinc r6 r6 r2;lb r3 r6 0;halt r3"},
		{"a branch that is never taken", "li r2 3;beq r2 r0 0;halt r2", "li r2 3;halt r2"},
		{"a branch over what nobody comes to", "li r2 3;bne r2 r0 4;in r3;out r3;halt r2", "li r2 3;jmp 4;trap 0;trap 0;halt r2"},
		{"branches to where idle ones were", "in r2;gtag r8 1;glt r2 9 1;gge r2 0 2;bne r2 r0 1;halt r2", "in r2;glt r2 9 1;bne r2 r0 1;halt r2"},
		{"what is answered", "cend r2 r9;cbase r3 r9;sub r4 r2 r3;gge r4 32 1;halt r4", "li r2 96;li r3 64;li r4 32;halt r4"},
		{"with CPC", "cpc r2 4;gtag r2 1;jc r2;trap 1;ret", "cpc r2 4;jmp 2;jmp 4;trap 0;ret"},
		{"with CPC that nobody comes to", "gtag r8 1;ret;cpc r2 0;ret", "ret;trap 0;trap 0"},
	} {
		checkSame(t, "19.3: "+r.what, trimmed(t, parse(t, alone(r.code))), parse(t, alone(r.want)))
	}
	got := trimmed(t, parse(t, double("gtag r8 1;li r2 5;b: glt r2 6 9;addi r2 r2 1;beq r2 r0 0;out r2;ret")))
	checkSame(t, "19.3: two gates", got, parse(t, double("li r2 5;b: addi r2 r2 1;out r2;ret")))
	got = trimmed(t, parse(t, "depth 2;comp;call h;gge r1 0 1;out r1;ret;comp;glt r0 1 1;ret;gate g 0 0 int ->;gate h 1 1 int -> int;gate i 1 0 ->"))
	checkSame(t, "19.3: two compartments", got, parse(t, "depth 2;comp;call h;out r1;ret;comp;ret;gate g 0 0 int ->;gate h 1 0 int -> int;gate i 1 0 ->"))
}

// turned are programs that are taken, and whose rounds begin elsewhere when they are packed: less is known there then, and they are refused.
func turned(t *testing.T) map[string]api.Image {
	t.Helper()
	whole := func(code string) api.Image {
		return parse(t, "depth 1;region 0 16 bytes #0102030405;comp;root r8 0 4 0 r 0;"+code+";gate main 0 0 ->")
	}
	return map[string]api.Image{
		"a JMP as the head":   whole("li r2 0;li r3 4;in r6;beq r6 r0 6;li r7 9;jmp 6;cinc r4 r8 r2;lb r5 r4 0;addi r2 r2 1;blt r2 r3 5;halt r5"),
		"a guard as the head": whole("li r2 0;li r3 4;in r6;beq r6 r0 6;li r7 9;gtag r8 1;cinc r4 r8 r2;lb r5 r4 0;addi r2 r2 1;blt r2 r3 5;halt r5"),
	}
}

// TestTrimIsFold: where Pack of Fold is not taken.
func TestTrimIsFold(t *testing.T) {
	for what, m := range turned(t) {
		f := folded(t, m)
		p := trim.Pack(f)
		if len(p.Comps[0].Code) >= len(f.Comps[0].Code) {
			t.Errorf("19.2: %s: nothing was taken out", what)
		}
		if why := checker.Check(p).Reason; why != api.RBounds {
			t.Errorf("19.3: %s: packed it is refused by %d, want %d", what, why, api.RBounds)
		}
		checkSame(t, "19.3: "+what, trimmed(t, m), f)
	}
}

// TestWrong: what is not right, and what is right and not taken, for each call.
func TestWrong(t *testing.T) {
	for what, m := range wrong(t) {
		if isRight(m) {
			t.Fatalf("%s: it is right", what)
		}
		checkRefused(t, what, m)
		checkSame(t, "19.2: "+what, trim.Pack(m), m)
	}
	for _, code := range []string{"lb r1 r2 0;ret", "li r1 1", "jmp 1;li r1 1", "halt r8", "glt r8 1 1;ret", "jmp 1;jmp 2;jc r1", "beq r1 r8 0;ret", "call g;call g;lb r1 r1 0;ret"} {
		checkRefused(t, code, parse(t, alone(code)))
	}
	// Taken by one gate, and not by the other.
	checkRefused(t, "the second gate", parse(t, double("ret;b: lb r1 r1 0;ret")))
	checkRefused(t, "the first gate", parse(t, double("lb r1 r1 0;b: ret")))
}

// wrong are programs that are not right, with idle instructions in them.
func wrong(t *testing.T) map[string]api.Image {
	t.Helper()
	good := func() api.Image {
		return parse(t, "depth 1;"+regions+"comp;"+held+"jmp 1;in r1;jmp 3;ret;comp;jmp 1;ret;gate g 0 2 int -> int;gate h 1 0 ->")
	}
	spoilt := map[string]func(*api.Image){
		"the depth 0":               func(m *api.Image) { m.Depth = 0 },
		"the depth 17":              func(m *api.Image) { m.Depth = api.MaxDepth + 1 },
		"no gates":                  func(m *api.Image) { m.Gates = nil },
		"no compartments":           func(m *api.Image) { m.Comps = nil },
		"no code":                   func(m *api.Image) { m.Comps[1].Code = nil },
		"an entry behind the code":  func(m *api.Image) { m.Gates[1].Entry = 2 },
		"an entry below 0":          func(m *api.Image) { m.Gates[0].Entry = -1 },
		"a compartment not there":   func(m *api.Image) { m.Gates[1].Comp = 2 },
		"a JMP behind the code":     func(m *api.Image) { m.Comps[1].Code[0].Imm = 2 },
		"a JMP far behind the code": func(m *api.Image) { m.Comps[0].Code[0].Imm = 1 << 40 },
		"a JMP below 0":             func(m *api.Image) { m.Comps[1].Code[0].Imm = -1 },
		"a JMP with another field":  func(m *api.Image) { m.Comps[0].Code[2].A = 1 },
		"a RET with an Imm":         func(m *api.Image) { m.Comps[0].Code[3].Imm = 1 },
		"no operation":              func(m *api.Image) { m.Comps[0].Code[1].Op = 14 },
		"a register not there":      func(m *api.Image) { m.Comps[0].Code[1].A = 16 },
		"a CALL not there":          func(m *api.Image) { m.Comps[0].Code[1] = api.Inst{Op: api.CALL, Imm: 2} },
		"a root in r7":              func(m *api.Image) { m.Comps[0].Roots[0].Reg = 7 },
		"a region of no bytes":      func(m *api.Image) { m.Regions[0].Len = 0 },
		"a slot of integers":        func(m *api.Image) { m.Regions[1].Slots[0].Type = api.Type{} },
		"a type with Exec":          func(m *api.Image) { m.Gates[0].Args[0] = api.Type{Cap: true, Perms: api.Exec} },
		"a result that is not":      func(m *api.Image) { m.Gates[0].Results[0].Hi = 1 },
		"too much code":             func(m *api.Image) { m.Comps[1].Code = make([]api.Inst, api.MaxCode+1) },
	}
	l := map[string]api.Image{
		"the empty program": {},
		"a JMP alone":       {Depth: 3, Comps: []api.Comp{{Code: []api.Inst{{Op: api.JMP, Imm: 1}}}}},
	}
	for what, spoil := range spoilt {
		m := good()
		spoil(&m)
		l[what] = m
	}
	return l
}
