package trim_test

import (
	"strings"
	"testing"

	"paddock/api"
	"paddock/trim"
)

// TestIdle: what is taken out, and what stays.
func TestIdle(t *testing.T) {
	stays := func(code string) row { return row{"stays: " + code, code, code} }
	checkPacks(t, bare("0"), []row{
		{"to the next one", "li r1 1;jmp 2;ret", "li r1 1;ret"},
		{"over an idle one", "li r1 1;jmp 3;jmp 3;ret", "li r1 1;ret"},
		{"over idle ones", "li r1 1;jmp 5;jmp 3;jmp 5;jmp 5;ret", "li r1 1;ret"},
		{"to idle ones", "li r1 1;jmp 2;jmp 3;jmp 4;ret", "li r1 1;ret"},
		{"to an idle one that goes further", "li r1 1;jmp 2;jmp 4;jmp 4;ret", "li r1 1;ret"},
		{"over one that is not idle", "jmp 2;ret;ret", "jmp 2;ret;ret"},
		{"over one that is not, among idle ones", "jmp 4;jmp 2;ret;jmp 4;ret", "jmp 2;ret;ret"},
		{"over a JMP that goes too far", "jmp 2;jmp 3;ret;ret", "jmp 2;jmp 3;ret;ret"},
		{"over a JMP that goes just as far, over another one", "jmp 3;jmp 3;ret;ret", "jmp 3;jmp 3;ret;ret"},
		{"over a JMP back", "jmp 2;jmp 0;ret", "jmp 2;jmp 0;ret"},
		{"over a JMP to itself", "jmp 2;jmp 1;ret", "jmp 2;jmp 1;ret"},
		{"to a JMP back", "jmp 1;jmp 0", "jmp 0"},
		{"to a JMP to itself", "jmp 1;jmp 1", "jmp 0"},
		{"at the beginning", "jmp 1;jmp 2;li r1 1;ret", "li r1 1;ret"},
		{"ahead of the last one", "li r1 1;out r1;jmp 3;ret", "li r1 1;out r1;ret"},
		{"here and there", "jmp 1;in r1;jmp 3;out r1;jmp 6;jmp 6;halt r1", "in r1;out r1;halt r1"},
		{"behind what ends", "ret;jmp 2;jmp 3;ret", "ret;ret"},
		{"all but the last", "jmp 4;jmp 4;jmp 4;jmp 4;li r1 1", "li r1 1"},
		stays("jmp 0"), stays("ret;jmp 1"), stays("ret;jmp 0"), stays("ret"), stays("li r1 1"), stays("beq r0 r0 1;ret"), stays("bne r0 r0 1;blt r0 r0 2;bge r0 r0 3;ret"),
		stays("glt r0 1 1;ret"), stays("mov r0 r0;addi r1 r1 0;ret"), stays("trap 1;ret"), stays("li r1 1;jc r1"), stays("call g;ret"),
	})
}

// TestNames: JMP and each branch name the same instruction where it stands now; if it was idle, the first one behind it that was not.
func TestNames(t *testing.T) {
	for _, op := range []string{"jmp", "beq r1 r2", "bne r1 r2", "blt r1 r2", "bge r1 r2"} {
		for _, r := range []row{
			{"forth, over an idle one", "OP 4;in r1;jmp 3;out r1;ret", "OP 3;in r1;out r1;ret"},
			{"forth, to an idle one", "OP 3;in r1;out r1;jmp 4;ret", "OP 3;in r1;out r1;ret"},
			{"forth, to the second of three", "OP 4;in r1;out r1;jmp 5;jmp 5;jmp 6;ret", "OP 3;in r1;out r1;ret"},
			{"forth, to the one behind idle ones", "OP 5;in r1;out r1;jmp 4;jmp 5;ret", "OP 3;in r1;out r1;ret"},
			{"forth, ahead of idle ones", "OP 2;in r1;out r1;jmp 4;ret", "OP 2;in r1;out r1;ret"},
			{"back, over an idle one", "in r1;jmp 2;out r1;OP 0;ret", "in r1;out r1;OP 0;ret"},
			{"back, to an idle one", "in r1;jmp 2;out r1;OP 1;ret", "in r1;out r1;OP 1;ret"},
			{"back, to an idle one at the beginning", "jmp 2;jmp 2;out r1;OP 1;ret", "out r1;OP 0;ret"},
			{"back, behind an idle one", "in r1;jmp 2;out r1;OP 2;ret", "in r1;out r1;OP 1;ret"},
			{"to itself, behind an idle one", "in r1;jmp 2;OP 2;ret", "in r1;OP 1;ret"},
			{"to an idle one just ahead", "in r1;jmp 2;OP 1;ret", "in r1;OP 1;ret"},
			{"to the first of idle ones just ahead", "jmp 3;jmp 2;jmp 3;OP 0;ret", "OP 0;ret"},
			{"as the last one", "jmp 1;in r1;jmp 3;OP 2", "in r1;OP 1"},
		} {
			with := func(code string) string { return strings.ReplaceAll(code, "OP", op) }
			checkPacks(t, bare("0"), []row{{op + " " + r.what, with(r.code), with(r.want)}})
		}
	}
	checkPacks(t, bare("0"), []row{
		{"to a branch's own next, over an idle one", "beq r1 r2 2;jmp 2;ret", "beq r1 r2 1;ret"},
		{"to a branch's own next, which is idle", "beq r1 r2 1;jmp 2;ret", "beq r1 r2 1;ret"},
	})
}

// TestEntries: gates' entries are names, too; each of its own compartment.
func TestEntries(t *testing.T) {
	code := "jmp 1;in r1;jmp 4;jmp 4;out r1;jmp 6;ret"
	for entry, now := range []string{"0", "0", "1", "1", "1", "2", "2"} {
		m := parse(t, bare(string(rune('0'+entry)))(code))
		checkSame(t, "19.2: an entry", trim.Pack(m), parse(t, bare(now)("in r1;out r1;ret")))
	}
	checkPacks(t, func(text string) string { return text }, []row{
		{"several gates",
			"depth 1;comp;jmp 1;in r1;jmp 3;ret;gate a 0 3 ->;gate b 0 0 ->;gate c 0 2 int -> int;gate d 0 1 ->;gate e 0 0 cap 0 16 0 0 r 0 ->",
			"depth 1;comp;in r1;ret;gate a 0 1 ->;gate b 0 0 ->;gate c 0 1 int -> int;gate d 0 0 ->;gate e 0 0 cap 0 16 0 0 r 0 ->"},
		{"of several compartments",
			"depth 1;comp;jmp 1;in r1;ret;comp;in r1;jmp 2;ret;comp;ret;in r1;jmp 3;ret;comp;jmp 1;jmp 2;ret;gate a 1 2 ->;gate b 0 2 ->;gate c 2 3 ->;gate d 0 1 ->;gate e 2 0 ->",
			"depth 1;comp;in r1;ret;comp;in r1;ret;comp;ret;in r1;ret;comp;ret;gate a 1 1 ->;gate b 0 1 ->;gate c 2 2 ->;gate d 0 0 ->;gate e 2 0 ->"},
	})
}

// TestBesideCPC: a compartment with CPC stays, with its gates; one beside it does not.
func TestBesideCPC(t *testing.T) {
	checkPacks(t, func(text string) string { return text }, []row{
		{"the first one has it",
			"depth 1;comp;jmp 1;cpc r1 2;jmp 3;ret;comp;jmp 1;beq r1 r0 2;jmp 3;ret;gate a 0 2 ->;gate b 1 2 ->;gate c 0 0 ->",
			"depth 1;comp;jmp 1;cpc r1 2;jmp 3;ret;comp;beq r1 r0 1;ret;gate a 0 2 ->;gate b 1 1 ->;gate c 0 0 ->"},
		{"the last one has it",
			"depth 1;comp;jmp 1;ret;comp;ret;comp;jmp 1;jmp 2;bne r1 r2 1;cpc r9 3;gate a 2 1 ->;gate b 0 1 ->;gate c 1 0 ->",
			"depth 1;comp;ret;comp;ret;comp;jmp 1;jmp 2;bne r1 r2 1;cpc r9 3;gate a 2 1 ->;gate b 0 0 ->;gate c 1 0 ->"},
		{"JC without CPC",
			"depth 1;comp;jmp 1;jc r1;jmp 3;ret;gate a 0 3 ->",
			"depth 1;comp;jc r1;ret;gate a 0 1 ->"},
	})
}

// TestOtherFields: what is no instruction's number is not turned: gates that are called, numbers, codes, counts, permissions, seals.
func TestOtherFields(t *testing.T) {
	others := "li r1 2;addi r1 r1 2;lb r2 r8 2;sb r2 r8 2;lw r2 r8 2;sw r2 r8 2;lc r2 r9 2;sc r2 r9 2;cinci r2 r8 2;csetbi r2 r8 2;candp r2 r8 w;glt r1 2 2;gge r1 2 2;gtag r8 2;gin r8 2 2;gperm r8 w 2;gseal r8 2 2;call 2;trap 2"
	gates := ";gate a 0 0 ->;gate b 0 0 ->;gate c 0 0 ->"
	whole := func(code string) string {
		return "depth 2;" + regions + "comp;" + held + code + gates
	}
	checkPacks(t, whole, []row{
		{"behind an idle one", "jmp 1;jmp 2;" + others, others},
		{"ahead of an idle one", others + ";jmp 20;jmp 21;ret", others + ";ret"},
	})
}

// TestPackNotTaken: of programs that are right all this is done, whether they are taken or not.
func TestPackNotTaken(t *testing.T) {
	for _, r := range []row{
		{"behind the code", "jmp 1;li r1 1", "li r1 1"},
		{"no capability", "in r1;jmp 2;lb r2 r1 0;beq r2 r8 1;ret", "in r1;lb r2 r1 0;beq r2 r8 1;ret"},
		{"JC of an integer", "jmp 1;jc r1", "jc r1"},
	} {
		m := parse(t, alone(r.code))
		if isTaken(m) {
			t.Errorf("%s: it is taken", r.what)
		}
		checkSame(t, "19.2: "+r.what, trim.Pack(m), parse(t, alone(r.want)))
	}
}

// TestPackLong: as much code as may be, all of it idle but for the last, or every second one.
func TestPackLong(t *testing.T) {
	var all, half []api.Inst
	for pc := range api.MaxCode - 1 {
		all = append(all, api.Inst{Op: api.JMP, Imm: api.MaxCode - 1})
		i := api.Inst{Op: api.BEQ, A: 1, Imm: pc}
		if pc%2 == 1 {
			i = api.Inst{Op: api.JMP, Imm: pc + 1}
		}
		half = append(half, i)
	}
	ret := api.Inst{Op: api.RET}
	long := func(code []api.Inst, entry int) api.Image {
		return api.Image{Depth: 1, Comps: []api.Comp{{Code: append(code, ret)}}, Gates: []api.Gate{{Entry: entry}}}
	}
	checkSame(t, "19.2: 399 idle ones", trim.Pack(long(all, 200)), long(nil, 0))
	var want []api.Inst
	for pc := range api.MaxCode / 2 {
		want = append(want, api.Inst{Op: api.BEQ, A: 1, Imm: pc})
	}
	checkSame(t, "19.2: 199 idle ones", trim.Pack(long(half, api.MaxCode-1)), long(want, api.MaxCode/2))
}
