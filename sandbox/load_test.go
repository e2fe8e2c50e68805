package sandbox_test

import (
	"fmt"
	"strings"
	"testing"

	"paddock/api"
	"paddock/checker"
	"paddock/sandbox"
)

// house has one of each thing that bytes of an image tell. Its first region begins at the byte 10, its second one at 24 (with the slot's type at 34 and its cursor at 69), its compartment at 77 (with the root at 78 and the instructions at 107 and 115), its gate at 123; it has 130 bytes.
const house = "depth 2;region 0 16 bytes #0102;region 16 16 slots;slot cap 0 16 0 15 r 0 at 3;comp;root r8 0 16 0 r 0;lb r1 r8 1;ret;gate main 0 0 int -> int"

// turned is a text with other bytes from a place on.
func turned(s string, at int, bytes ...byte) string {
	return s[:at] + string(bytes) + s[at+len(bytes):]
}

// TestHouse: what the other tests turn is taken as it stands.
func TestHouse(t *testing.T) {
	if n := len(encoded(t, parse(t, house))); n != 130 {
		t.Fatalf("the house has %d bytes", n)
	}
	checkRuns(t, "the house", loaded(t, house), begun{args: []uint64{9}, fuel: 9}, api.Result{Outcome: halted(2, 1), Touches: []api.Touch{load(1, 1)}})
}

// TestEachErrorOfBytes: those of chapter 4, with the byte that it tells.
func TestEachErrorOfBytes(t *testing.T) {
	s := encoded(t, parse(t, house))
	full := api.MaxImage - len(s)
	// An argument of capabilities: Base and End are 0, Lo is 1, all else is 0.
	falling := s[:127] + "\x01" + strings.Repeat("\x00", 16) + "\x01" + strings.Repeat("\x00", 7+8+2) + s[128:]
	for _, c := range []struct {
		what  string
		s     string
		want  api.Errno
		place int
	}{
		{"no bytes", "", api.ErrMagic, 0},
		{"one that is another", "x", api.ErrMagic, 0},
		{"five of six", "PADDK", api.ErrMagic, 0},
		{"another first byte", turned(s, 0, 'p'), api.ErrMagic, 0},
		{"another sixth byte", turned(s, 5, '2'), api.ErrMagic, 0},
		{"a byte ahead", " " + s, api.ErrMagic, 0},
		{"six alone", "PADDK1", api.ErrCut, 6},
		{"one byte less", s[:129], api.ErrCut, 129},
		{"cut within an instruction", s[:114], api.ErrCut, 114},
		{"more code than there is", turned(s, 105, 3), api.ErrCut, 130},
		{"a type of the slot", turned(s, 34, 2), api.ErrType, 34},
		{"a type of an argument", turned(s, 127, 255), api.ErrType, 127},
		{"a type of a result", turned(s, 129, 7), api.ErrType, 129},
		{"no operation", turned(s, 107, 0), api.ErrOp, 107},
		{"no operation at the second", turned(s, 115, 99), api.ErrOp, 115},
		{"a field of the first", turned(s, 108, 16), api.ErrField, 107},
		{"a field of the second", turned(s, 116, 1), api.ErrField, 115},
		{"a byte behind", s + "\x00", api.ErrRest, 130},
		{"twice", s + s, api.ErrRest, 130},
		{"as long as may be", s + strings.Repeat("\x00", full), api.ErrRest, 130},
		{"too long", s + strings.Repeat("\x00", full+1), api.ErrCount, 0},
		{"too long, and no image", strings.Repeat("x", api.MaxImage+1), api.ErrCount, 0},
		{"as long as may be, and no image", strings.Repeat("x", api.MaxImage), api.ErrMagic, 0},
		{"no depth", turned(s, 6, 0), api.ErrCount, 0},
		{"too deep", turned(s, 6, api.MaxDepth+1), api.ErrCount, 0},
		{"a region's base", turned(s, 10, 8), api.ErrRegion, 0},
		{"a region's length", turned(s, 14, 17), api.ErrRegion, 0},
		{"a region's last byte", turned(s, 23, 0), api.ErrRegion, 0},
		{"a slot that points behind its type", turned(s, 69, 16), api.ErrSlot, 0},
		{"a slot with Exec", turned(s, 67, byte(api.Exec)), api.ErrSlot, 0},
		{"a root in r7", turned(s, 78, 7), api.ErrRoot, 0},
		{"a root with Exec", turned(s, 103, byte(api.Exec)), api.ErrRoot, 0},
		{"a root with a great seal", turned(s, 104, 16), api.ErrRoot, 0},
		{"a jump behind the code", turned(s, 115, byte(api.JMP), 0, 0, 0, 2), api.ErrTarget, 0},
		{"a call of no gate", turned(s, 115, byte(api.CALL), 0, 0, 0, 1), api.ErrTarget, 0},
		{"a gate of no compartment", turned(s, 123, 1), api.ErrGate, 0},
		{"a gate behind the code", turned(s, 124, 2), api.ErrGate, 0},
		{"an argument whose Lo is above its Hi", falling, api.ErrType, 0},
	} {
		checkWrong(t, c.what, c.s, c.want, c.place)
	}
}

// TestCutBytes: at each place.
func TestCutBytes(t *testing.T) {
	s := encoded(t, parse(t, house))
	for n := range len(s) {
		if n < len("PADDK1") {
			checkWrong(t, fmt.Sprintf("cut at %d", n), s[:n], api.ErrMagic, 0)
		} else {
			checkWrong(t, fmt.Sprintf("cut at %d", n), s[:n], api.ErrCut, n)
		}
	}
}

// TestTurnedBytes: each byte as each other one; some are images then, and some of these are taken.
func TestTurnedBytes(t *testing.T) {
	t.Parallel()
	s := encoded(t, parse(t, house))
	told := map[api.Errno]int{}
	for at := range s {
		for b := range 256 {
			told[checkLoad(t, fmt.Sprintf("the byte %d at %d", b, at), turned(s, at, byte(b)))]++
		}
	}
	for _, e := range []api.Errno{api.OK, api.ErrCheck, api.ErrMagic, api.ErrCut, api.ErrCount, api.ErrRegion, api.ErrType, api.ErrSlot, api.ErrRoot, api.ErrGate, api.ErrRest, api.ErrOp, api.ErrField} {
		if told[e] == 0 {
			t.Errorf("16.1: no byte that is turned is told as %d: %v", e, told)
		}
	}
}

// TestLongerBytes: some bytes laid in at each place, or taken out.
func TestLongerBytes(t *testing.T) {
	t.Parallel()
	s := encoded(t, parse(t, house))
	for at := range len(s) + 1 {
		for _, more := range []string{"\x00", "\x01", "\xff", "PADDK1", s} {
			checkLoad(t, fmt.Sprintf("%q laid in at %d", more, at), s[:at]+more+s[at:])
		}
		for n := 1; n <= 8 && at+n <= len(s); n++ {
			checkLoad(t, fmt.Sprintf("%d taken out at %d", n, at), s[:at]+s[at+n:])
		}
	}
}

// rows has three gates, each with three instructions of its own.
const rows = "depth 1;comp;li r1 1;li r2 2;ret;li r1 1;li r2 2;ret;comp;li r1 1;li r2 2;ret;gate a 0 0 ->;gate b 0 3 ->;gate c 1 0 ->"

// TestRefusedAnywhere: at each instruction of each gate, with all that the checker tells.
func TestRefusedAnywhere(t *testing.T) {
	for gate, comp := range []int{0, 0, 1} {
		first := 3 * (gate % 2)
		for pc := first; pc < first+3; pc++ {
			m := parse(t, rows)
			m.Comps[comp].Code[pc] = api.Inst{Op: api.LB, A: 1, B: 5}
			want := checker.Check(m)
			if want.Reason != api.RCap || want.Gate != gate || want.Pc != pc || want.Steps != 6+pc-first+1 {
				t.Fatalf("11.2: the checker tells %d at %d of the gate %d", want.Reason, want.Pc, want.Gate)
			}
			checkRefused(t, fmt.Sprintf("the gate %d, at %d", gate, pc), m, want)
		}
	}
	checkTaken(t, "none of them", parse(t, rows), checker.Check(parse(t, rows)))
}

// TestFirstRefusal: where there are several, the checker's first one is told.
func TestFirstRefusal(t *testing.T) {
	m := parse(t, rows)
	m.Comps[1].Code[0] = api.Inst{Op: api.LB, A: 1, B: 5}
	m.Comps[0].Code[5] = api.Inst{Op: api.HALT, A: 1}
	checkRefused(t, "the last gate alone", m, checker.Check(m))
	m.Comps[0].Code[4] = api.Inst{Op: api.JC, A: 1}
	if r := checker.Check(m); r.Gate != 1 || r.Pc != 4 {
		t.Fatalf("11.2: the checker tells %d at %d of the gate %d", r.Reason, r.Pc, r.Gate)
	}
	checkRefused(t, "two gates", m, checker.Check(m))
}

// refusals has for each Reason code that is refused by it, behind the number of the instruction.
func refusals() map[api.Reason]string {
	return map[api.Reason]string{
		api.RInt:    "1 li r1 1;out r8;ret",
		api.RCap:    "1 li r1 1;lb r1 r1 0;ret",
		api.RSeal:   "0 cinci r6 r12 1;ret",
		api.RPerm:   "1 candp r6 r8 w;lb r1 r6 0;ret",
		api.RBounds: "0 lb r1 r8 32;ret",
		api.ROtype:  "1 cinci r6 r10 -3;cseal r7 r8 r6;ret",
		api.RAlign:  "0 lc r6 r9 8;ret",
		api.RTarget: "2 cpc r1 1;cinci r1 r1 4;jc r1;ret",
		api.RSlot:   "0 sc r8 r9 0;ret",
		api.RBytes:  "0 lb r1 r11 0;ret",
		api.RMeta:   "3 in r1;beq r1 r0 3;mov r6 r8;ctag r1 r6;ret",
		api.RGuard:  "3 in r1;beq r1 r0 3;mov r6 r8;gtag r6 0;ret",
		api.RArgs:   "1 mov r1 r8;call g;ret",
		api.RResult: "1 mov r1 r8;ret",
		api.RFall:   "1 jmp 1;li r1 1",
	}
}

// corner is a program of one compartment, in which each Reason can be.
func corner(code string) string {
	return "depth 2;region 0 32 bytes;region 32 16 slots;slot cap 0 16 4 4 r 0 at 4;" +
		"comp;root r8 0 32 0 rw 0;root r9 32 64 32 cd 0;root r10 0 16 3 su 0;root r11 32 64 48 rw 0;root r12 0 32 0 r 3;" +
		code + ";gate g 0 0 int -> int"
}

// TestEachReason: with its place, and all else of the report.
func TestEachReason(t *testing.T) {
	texts := refusals()
	for why := api.RInt; why <= api.RFall; why++ {
		pc, code, _ := strings.Cut(texts[why], " ")
		m := parse(t, corner(code))
		r := checker.Check(m)
		if r.Reason != why || r.Gate != 0 || r.Pc != int(pc[0]-'0') {
			t.Fatalf("11.2: the checker tells %d at %d, want %d at %s", r.Reason, r.Pc, why, pc)
		}
		checkRefused(t, code, m, r)
	}
}

// checkTaken looks whether an image is taken, with this report.
func checkTaken(t *testing.T, what string, m api.Image, want api.Report) {
	t.Helper()
	p, e, at, r := sandbox.Load(encoded(t, m))
	if p == nil || e != api.OK || at != 0 {
		t.Errorf("16.1: %s: %v, %d, %d, want a program, OK and 0", what, p != nil, e, at)
	}
	checkReport(t, what, r, want)
}

// known is a state that can be come to, with all registers the integer 0.
func known() api.State {
	s := api.State{Live: true}
	for k := range s.Regs {
		s.Regs[k] = integer(0, 0)
	}
	return s
}

// TestReportsOfTaken: reckoned by hand, with the table.
func TestReportsOfTaken(t *testing.T) {
	ahead, behind := known(), known()
	behind.Regs[1] = integer(5, 5)
	checkTaken(t, "the chapter's program", parse(t, five), api.Report{Steps: 2, Table: api.Table{{ahead, behind}}})

	points := func(at uint64) api.Span { return api.Span{Lo: at, Hi: at} }
	first := known()
	first.Regs[8] = api.RType{Kind: api.ACap, Base: points(0), End: points(32), Point: points(0), Must: api.Load, May: api.Load}
	second := first
	second.Regs[1] = integer(0, top)
	third := first
	third.Regs[1] = integer(0, 31)
	fourth := third
	fourth.Regs[2] = fourth.Regs[8]
	fourth.Regs[2].Point.Hi = 31
	fifth := fourth
	fifth.Regs[3] = integer(0, 255)
	checkTaken(t, "Example 1", parse(t, reading), api.Report{Steps: 5, Table: api.Table{{first, second, third, fourth, fifth}}})

	// Each gate has a row of its own, with the states of all instructions of its compartment.
	entry, one, two, never := known(), known(), known(), api.State{}
	one.Regs[1] = integer(1, 1)
	two.Regs[1], two.Regs[2] = integer(1, 1), integer(2, 2)
	checkTaken(t, "three gates", parse(t, rows), api.Report{Steps: 9, Table: api.Table{
		{entry, one, two, never, never, never}, {never, never, never, entry, one, two}, {entry, one, two},
	}})
}

// TestTakenByTheChecker: examples of all sorts, each with the whole report.
func TestTakenByTheChecker(t *testing.T) {
	for _, x := range examples() {
		m := parse(t, x.text)
		r := checker.Check(m)
		if r.Reason != api.Fine || len(r.Table) != len(m.Gates) {
			t.Fatalf("11.2: Example %s: %d", x.name, r.Reason)
		}
		checkTaken(t, "Example "+x.name, m, r)
	}
}
