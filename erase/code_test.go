package erase_test

import (
	"strconv"
	"testing"
)

// becoming is code of alone, with a semicolon between its instructions, and what it becomes.
type becoming struct {
	code string
	want string
}

func checkBecomes(t *testing.T, l []becoming) {
	t.Helper()
	for _, c := range l {
		m := parse(t, alone(c.code))
		checkCode(t, "12.4: "+c.code, taken(t, "12.4: "+c.code, m).Code[0], bare(t, c.want))
	}
}

// ending is instructions with a RET behind them.
func ending(code string, want string) becoming { return becoming{code + ";ret", want + ";fret"} }

func TestIntegers(t *testing.T) {
	checkBecomes(t, []becoming{
		ending("li r3 7", "fli a3 i7"),
		ending("li r15 -1", "fli a15 i-1"),
		ending("li r1 -2147483648", "fli a1 i-2147483648"),
		ending("li r0 2147483647", "fli i2147483647"),
		ending("mov r3 r2", "fmov a3 b2"),
		ending("mov r3 r8", "fmov a3 b8"),
		ending("mov r8 r11", "fmov a8 b11"),
		ending("addi r3 r2 9", "faddi a3 b2 i9"),
		ending("addi r3 r2 -9", "faddi a3 b2 i-9"),
		ending("addi r3 r2 -2147483648", "faddi a3 b2 i-2147483648"),
		ending("in r4", "fin a4"),
		ending("out r4", "fout a4"),
	})
	for _, op := range []string{"add", "sub", "mul", "and", "or", "xor", "shl", "shr", "slt", "seq"} {
		checkBecomes(t, []becoming{
			ending(op+" r3 r2 r1", "f"+op+" a3 b2 c1"),
			ending(op+" r0 r15 r14", "f"+op+" b15 c14"),
			ending(op+" r1 r1 r1", "f"+op+" a1 b1 c1"),
		})
	}
}

func TestWays(t *testing.T) {
	checkBecomes(t, []becoming{
		{"jmp 2;trap 9;ret", "fjmp i2;ftrap;fret"},
		{"jmp 0", "fjmp"},
		{"halt r3", "fhalt a3"},
		{"halt r0", "fhalt"},
		{"trap 255", "ftrap i255"},
		{"trap 0", "ftrap"},
		{"ret", "fret"},
		// An address is that of the compartment's code; from 1048576 on, 8 for each instruction.
		{"cpc r3 1;ret", "fli a3 i1048584;fret"},
		{"cpc r3 0;ret", "fli a3 i1048576;fret"},
		{"cpc r3 3;jc r3;trap 9;ret", "fli a3 i1048600;fjmp i3;ftrap;fret"},
		{"cpc r3 0;jc r3", "fli a3 i1048576;fjmp"},
		// Where JC goes hangs on what is known, not on what CPC said.
		{"cpc r3 1;cinci r4 r3 16;jc r4;ret", "fli a3 i1048584;faddi a4 b3 i16;fjmp i3;fret"},
		{"cpc r3 3;cinci r4 r3 -24;jc r4;ret", "fli a3 i1048600;faddi a4 b3 i-24;fjmp;ftrap"},
	})
	for _, op := range []string{"beq", "bne", "blt", "bge"} {
		checkBecomes(t, []becoming{
			{op + " r1 r2 2;ret;halt r0", "f" + op + " a1 b2 i2;fret;fhalt"},
			{op + " r2 r1 0;ret", "f" + op + " a2 b1;fret"},
		})
	}
	// A branch stays one, where it is known whether it is taken.
	checkBecomes(t, []becoming{
		{"beq r0 r3 2;ret;halt r0", "fbeq b3 i2;ftrap;fhalt"},
		{"bne r0 r3 2;ret;halt r0", "fbne b3 i2;fret;ftrap"},
		{"blt r3 r0 2;ret;halt r0", "fblt a3 i2;fret;ftrap"},
		{"bge r3 r0 2;ret;halt r0", "fbge a3 i2;ftrap;fhalt"},
	})
}

// TestSecondCode: CPC and JC in another compartment than the first.
func TestSecondCode(t *testing.T) {
	m := parse(t, "depth 1;comp;trap 1;comp;trap 2;comp;trap 3;comp;cpc r1 2;jc r1;halt r0;gate g 0 0 ->;gate h 3 0 ->")
	p := taken(t, "12.4", m)
	checkCode(t, "12.4: the first", p.Code[0], bare(t, "ftrap i1"))
	checkCode(t, "12.4: the fourth", p.Code[1], bare(t, "fli a1 i1245200;fjmp i2;fhalt"))
}

func TestCalls(t *testing.T) {
	m := parse(t, "depth 2;comp;call h;call g;call f;ret;comp;ret;comp;ret;gate f 0 0 ->;gate g 1 0 ->;gate h 2 0 ->")
	p := taken(t, "12.4", m)
	checkCode(t, "12.4: the first", p.Code[0], bare(t, "fcall i2;fcall i1;fcall;fret"))
	checkCode(t, "12.4: the second", p.Code[1], bare(t, "fret"))
	checkCode(t, "12.4: the third", p.Code[2], bare(t, "fret"))
}

func TestDerivations(t *testing.T) {
	checkBecomes(t, []becoming{
		ending("cinc r3 r8 r1", "fadd a3 b8 c1"),
		ending("cinc r8 r8 r0", "fadd a8 b8"),
		ending("cinci r3 r8 5", "faddi a3 b8 i5"),
		ending("cinci r3 r8 -17", "faddi a3 b8 i-17"),
		ending("csetb r3 r8 r4", "fmov a3 b8"),
		ending("li r4 9;csetb r3 r8 r4", "fli a4 i9;fmov a3 b8"),
		ending("csetbi r3 r8 48", "fmov a3 b8"),
		ending("csetbi r0 r8 0", "fmov b8"),
		ending("candp r3 r8 rw", "fmov a3 b8"),
		ending("candp r3 r8 -", "fmov a3 b8"),
		ending("cseal r3 r8 r10", "fmov a3 b8"),
		ending("cunseal r3 r11 r10", "fmov a3 b11"),
	})
}

func TestQuestions(t *testing.T) {
	checkBecomes(t, []becoming{
		ending("caddr r3 r8", "fmov a3 b8"), // what it answers is known, too, but not said
		ending("caddr r3 r11", "fmov a3 b11"),
		ending("cbase r3 r9", "fli a3 i64"),
		ending("cbase r3 r8", "fli a3"),
		ending("cend r3 r9", "fli a3 i96"),
		ending("cperm r3 r9", "fli a3 i12"),
		ending("cperm r3 r10", "fli a3 i96"),
		ending("csealed r3 r11", "fli a3 i5"),
		ending("csealed r3 r8", "fli a3"),
		ending("ctag r3 r8", "fli a3 i1"),
		ending("ctag r3 r11", "fli a3 i1"),
		ending("ctag r3 r1", "fli a3"),
		// CSAME, where it is Known: by kinds, by what is unlike, by where they point.
		ending("csame r3 r1 r2", "fli a3"),
		ending("csame r3 r8 r1", "fli a3"),
		ending("csame r3 r8 r9", "fli a3"),
		ending("csame r3 r8 r12", "fli a3"),
		ending("csame r3 r8 r8", "fli a3 i1"),
		ending("cinci r4 r12 -48;csame r3 r4 r8", "faddi a4 b12 i-48;fli a3 i1"),
		// And where it is Plain.
		ending("cinc r4 r8 r1;csame r3 r4 r8", "fadd a4 b8 c1;fseq a3 b4 c8"),
		ending("cinc r4 r8 r1;csame r0 r8 r4", "fadd a4 b8 c1;fseq b8 c4"),
		ending("cinc r4 r8 r1;csame r3 r4 r4", "fadd a4 b8 c1;fseq a3 b4 c4"),
		// Where one points beyond the other it is Known again.
		ending("glt r1 9 1;cinc r4 r8 r1;csame r3 r4 r12", "fglt a1 c1 i9;fadd a4 b8 c1;fli a3"),
	})
}

func TestTouches(t *testing.T) {
	for _, op := range []string{"lb", "lw", "sb", "sw"} {
		checkBecomes(t, []becoming{
			ending(op+" r3 r8 0", "f"+op+" a3 b8"),
			ending(op+" r3 r8 40", "f"+op+" a3 b8 i40"),
			ending(op+" r3 r8 -16", "f"+op+" a3 b8 i-16"),
			ending(op+" r0 r12 -8", "f"+op+" b12 i-8"),
		})
	}
	checkBecomes(t, []becoming{
		ending("lc r3 r9 0", "flc a3 b9"),
		ending("lc r3 r9 16", "flc a3 b9 i16"),
		ending("cinci r4 r9 32;lc r3 r4 -16", "faddi a4 b9 i32;flc a3 b4 i-16"),
		ending("sc r8 r9 0", "fsc a8 b9"),
		ending("candp r5 r8 r;cinci r5 r5 -16;cseal r5 r5 r10;sc r5 r9 16", "fmov a5 b8;faddi a5 b5 i-16;fmov a5 b5;fsc a5 b9 i16"),
		ending("lc r3 r9 16;cinci r4 r9 32;sc r3 r4 -16", "flc a3 b9 i16;faddi a4 b9 i32;fsc a3 b4 i-16"),
	})
}

// TestGuards: each where it holds and where it does not, those of integers where that is not known; behind one that does not hold nobody comes.
func TestGuards(t *testing.T) {
	checkBecomes(t, []becoming{
		ending("glt r1 32 9", "fglt a1 c9 i32"),
		ending("glt r1 2147483647 255", "fglt a1 c255 i2147483647"),
		ending("glt r1 1 0", "fglt a1 i1"),
		ending("gge r1 32 9", "fgge a1 c9 i32"),
		ending("gge r2 1 16", "fgge a2 c16 i1"),
		ending("glt r3 1 9", "fnop"),
		ending("gge r3 0 9", "fnop"),
		ending("gge r1 0 9", "fnop"),
		// The second time it is known.
		{"glt r1 32 9;glt r1 32 8;glt r1 31 7;gge r1 31 6;ret", "fglt a1 c9 i32;fnop;fglt a1 c7 i31;fguard c6;ftrap"},
		ending("gtag r8 9", "fnop"),
		ending("gtag r11 9", "fnop"),
		ending("gin r8 48 9", "fnop"),
		ending("gin r12 0 9", "fnop"),
		ending("gperm r8 rw 9", "fnop"),
		ending("gperm r8 - 9", "fnop"),
		ending("gseal r8 0 9", "fnop"),
		ending("gseal r11 5 9", "fnop"),
		{"glt r3 0 9;ret", "fguard c9;ftrap"},
		{"glt r1 0 255;ret", "fguard c255;ftrap"},
		{"gge r3 1 0;ret", "fguard;ftrap"},
		{"gtag r1 16;ret", "fguard c16;ftrap"},
		{"gin r8 49 9;ret", "fguard c9;ftrap"},
		{"gin r11 0 9;ret", "fguard c9;ftrap"},
		{"gperm r8 rwc 9;ret", "fguard c9;ftrap"},
		{"gseal r8 5 9;ret", "fguard c9;ftrap"},
		{"gseal r11 4 9;ret", "fguard c9;ftrap"},
		{"gseal r11 0 9", "fguard c9"},
	})
}

// TestNobodyComes: whatever stands where nobody comes, it is FTRAP with all else 0.
func TestNobodyComes(t *testing.T) {
	for _, dead := range []string{
		"li r1 -5", "mov r3 r2", "add r3 r2 r1", "addi r3 r2 9", "beq r1 r2 3", "cpc r4 2", "jc r8", "halt r9", "trap 7", "in r3", "out r9", "call g", "ret",
		"cinc r3 r1 r8", "csetbi r3 r8 65536", "candp r3 r1 r", "cbase r3 r1", "csame r3 r8 r9", "lb r3 r1 9", "sc r3 r1 9", "glt r8 5 9", "gtag r8 9", "gin r8 900 9",
	} {
		for _, ahead := range [][2]string{{"ret", "fret"}, {"jmp 0", "fjmp"}, {"halt r1", "fhalt a1"}, {"trap 7", "ftrap i7"}, {"gtag r1 5", "fguard c5"}, {"beq r0 r3 0", "fbeq b3"}} {
			checkBecomes(t, []becoming{{ahead[0] + ";" + dead + ";" + dead + ";" + dead, ahead[1] + ";ftrap;ftrap;ftrap"}})
		}
	}
}

// TestGatesOfOneCompartment: each has code of its own, by what is known where it was come in by.
func TestGatesOfOneCompartment(t *testing.T) {
	m := parse(t, "depth 2;region 0 32 bytes;comp;root r8 0 32 0 r 0;root r9 0 32 8 r 0;"+
		"glt r1 5 9;ctag r2 r1;csame r3 r8 r9;jmp b;b: csame r4 r3 r8;gge r1 3 8;halt r1;"+
		"gate f 0 0 int ->;gate g 0 0 ->;gate h 0 b int ->;gate k 0 2 ->;gate l 0 6 int int ->")
	p := taken(t, "12.4", m)
	for k, want := range []string{
		"fglt a1 c9 i5;fli a2;fli a3;fjmp i4;fli a4;fgge a1 c8 i3;fhalt a1",
		"fnop;fli a2;fli a3;fjmp i4;fli a4;fguard c8;ftrap",
		"ftrap;ftrap;ftrap;ftrap;fli a4;fgge a1 c8 i3;fhalt a1",
		"ftrap;ftrap;fli a3;fjmp i4;fli a4;fguard c8;ftrap",
		"ftrap;ftrap;ftrap;ftrap;ftrap;ftrap;fhalt a1",
	} {
		checkCode(t, "12.4: the gate "+strconv.Itoa(k), p.Code[k], bare(t, want))
	}
}

// TestArgumentsOfAGate: what is asked of an argument is answered by its type, gate by gate.
func TestArgumentsOfAGate(t *testing.T) {
	code := "ctag r2 r1;cbase r3 r1;cend r4 r1;cperm r5 r1;csealed r6 r1;gseal r1 0 4;ret"
	m := parse(t, "depth 2;comp;"+code+";gate f 0 0 cap 16 64 0 99 rw 0 ->;gate g 0 0 cap 7 9 5 5 csu 15 ->")
	p := taken(t, "12.4", m)
	checkCode(t, "12.4: open", p.Code[0], bare(t, "fli a2 i1;fli a3 i16;fli a4 i64;fli a5 i3;fli a6;fnop;fret"))
	checkCode(t, "12.4: sealed", p.Code[1], bare(t, "fli a2 i1;fli a3 i7;fli a4 i9;fli a5 i100;fli a6 i15;fguard c4;ftrap"))
}
