package asm_test

import (
	"fmt"
	"math/big"
	"regexp"
	"slices"
	"strings"
	"testing"

	"paddock/api"
	"paddock/asm"
	"paddock/instr"
)

// lineKinds has a line of each kind, by a letter.
var lineKinds = map[byte]string{
	'd': "depth 1", 'b': "region 0 16 bytes #01", 's': "region 0 16 slots", 't': "slot int at 0", 'c': "comp", 'r': "root r8 0 0 0 - 0", 'i': "ret", 'l': "L%d:", 'm': "L%d: ret", 'g': "gate G%d 0 0 ->",
}

// inOrder are the letters of lines in their order. What is ahead of a line in such a row is one itself, so a line stands wrong if the lines up to it are none.
var inOrder = regexp.MustCompile(`\Ad(b|st*)*(cr*[ilm]*)*g*\z`)

// checkOrder tells by the letters alone in which line a text is wrong.
func checkOrder(t *testing.T, letters string) {
	t.Helper()
	var lines []string
	wrong := 0
	for n := range letters {
		line := lineKinds[letters[n]]
		if strings.Contains(line, "%d") {
			line = fmt.Sprintf(line, n)
		}
		lines = append(lines, line)
		if wrong == 0 && !inOrder.MatchString(letters[:n+1]) {
			wrong = n + 1
		}
	}
	_, e, line := asm.Parse(strings.Join(lines, "\n"))
	if line != wrong || (e == api.ErrForm) != (wrong != 0) {
		t.Errorf("5.2: lines %q: %d, line %d, want one wrong line: %d", letters, e, line, wrong)
	}
}

// TestOrderOfLines goes through all rows of up to four kinds of lines, and behind depth of up to five.
func TestOrderOfLines(t *testing.T) {
	rows := []string{""}
	for n := range 5 {
		var longer []string
		for _, row := range rows {
			for _, kind := range []byte("dbstcrilmg") {
				longer = append(longer, row+string(kind))
			}
		}
		for _, row := range longer {
			if n < 4 {
				checkOrder(t, row)
			}
			checkOrder(t, "d"+row)
		}
		rows = longer
	}
	for _, row := range []string{"dbsttbbssttcrrliimcccrlgg", "dbsttbbssttcrrliimcrlicirg", "dcrrrrilggc", "dcicicicig", "dgggggi"} {
		checkOrder(t, row)
	}
}

// TestEachNumberHasItsField reads lines in which no two numbers are alike.
func TestEachNumberHasItsField(t *testing.T) {
	checkParse(t, "5.2", "depth 3\nregion 16 32 bytes #ff00a9\nregion 64 16 slots\nslot cap 1 2 3 40 r 6 at 7\ncomp\nroot r9 11 12 13 w 14\nret\ncomp\nret\nret\ngate g 1 0 cap 21 22 23 24 c 15 int -> cap 31 32 33 34 d 5\n", api.Image{
		Depth: 3,
		Regions: []api.Region{
			{Base: 16, Len: 32, Data: "\xff\x00\xa9"},
			{Base: 64, Len: 16, Slots: []api.Slot{{Type: api.Type{Cap: true, Base: 1, End: 2, Lo: 3, Hi: 40, Perms: api.Load, Seal: 6}, Cursor: 7}}},
		},
		Comps: []api.Comp{
			{Roots: []api.Root{{Reg: 9, Cap: api.Cap{Base: 11, End: 12, Cursor: 13, Perms: api.Store, Seal: 14}}}, Code: []api.Inst{{Op: api.RET}}},
			{Code: []api.Inst{{Op: api.RET}, {Op: api.RET}}},
		},
		Gates: []api.Gate{{
			Comp: 1, Entry: 0,
			Args:    []api.Type{{Cap: true, Base: 21, End: 22, Lo: 23, Hi: 24, Perms: api.LoadCap, Seal: 15}, {}},
			Results: []api.Type{{Cap: true, Base: 31, End: 32, Lo: 33, Hi: 34, Perms: api.StoreCap, Seal: 5}},
		}},
	})
}

func TestData(t *testing.T) {
	all := make([]byte, 256)
	var row strings.Builder
	for b := range all {
		all[b] = byte(b)
		fmt.Fprintf(&row, "%02x", b)
	}
	m := leastImage()
	m.Regions = []api.Region{{Len: 256, Data: string(all)}}
	text := func(data string) string {
		return strings.Replace(leastPrinted, "comp", "region 0 256 bytes"+data+"\ncomp", 1)
	}
	checkParse(t, "5.1", text(" #"+row.String()), m)
	m.Regions[0].Data = ""
	checkParse(t, "5.1", text(" #"), m)
	checkParse(t, "5.1", text(""), m)
	checkWrong(t, "5.3", text(" #00"), api.ErrRegion, 0)
	checkWrong(t, "5.3", text(" #0100"), api.ErrRegion, 0)
	checkWrong(t, "5.3", text(" #"+row.String()+"ff"), api.ErrRegion, 0)
}

// TestSlotsWithoutASlot: a region of slots that has none is one of no bytes.
func TestSlotsWithoutASlot(t *testing.T) {
	m := leastImage()
	m.Regions = []api.Region{{Len: 32}, {Base: 32, Len: 16}}
	checkParse(t, "5.2", strings.Replace(leastPrinted, "comp", "region 0 32 slots\nregion 32 16 slots\ncomp", 1), m)
}

func TestRegisters(t *testing.T) {
	for n := range 16 {
		checkCode(t, "5.2", inCode(fmt.Sprintf("halt r%d", n)), api.Inst{Op: api.HALT, A: n})
	}
	for n := 8; n < 16; n++ {
		m := leastImage()
		m.Comps[0].Roots = []api.Root{{Reg: n}}
		checkParse(t, "5.2", inCode(fmt.Sprintf("root r%d 0 0 0 - 0", n), "ret"), m)
		checkWrong(t, "5.3", inCode(fmt.Sprintf("root r%d 0 0 0 - 0", n-8), "ret"), api.ErrRoot, 0)
	}
	for _, name := range []string{"r", "r16", "r17", "r20", "r99", "r100", "r150", "r00", "r01", "r05", "r015", "r1_", "r1a", "R1", "rr", "x", "q1", "r1r", "sp", "zero"} {
		checkWrong(t, "5.3", inCode("halt "+name), api.ErrName, 3)
		checkWrong(t, "5.3", inCode("add r1 r2 "+name), api.ErrName, 3)
		checkWrong(t, "5.3", inCode("root "+name+" 0 0 0 - 0"), api.ErrName, 3)
	}
}

// orders are rows of the letters of some permissions: in the order of their bits, the other way round, and turned.
func orders(perms int) []string {
	var row []byte
	for bit, letter := range []byte{'r', 'w', 'c', 'd', 'x', 's', 'u'} {
		if perms>>bit&1 == 1 {
			row = append(row, letter)
		}
	}
	back := slices.Clone(row)
	slices.Reverse(back)
	l := []string{string(row), string(back)}
	for n := range row {
		l = append(l, string(row[n:])+string(row[:n]))
	}
	return l
}

func TestPerms(t *testing.T) {
	for perms := 1; perms < 128; perms++ {
		for _, name := range orders(perms) {
			checkCode(t, "5.2", inCode("candp r1 r2 "+name, "gperm r3 "+name+" 4"), api.Inst{Op: api.CANDP, A: 1, B: 2, Imm: perms}, api.Inst{Op: api.GPERM, A: 3, Imm: perms, C: 4})
			for at := range name {
				checkWrong(t, "5.3", inCode("candp r1 r2 "+name+name[at:at+1]), api.ErrName, 3)
			}
		}
	}
	checkCode(t, "5.2", inCode("candp r1 r2 -", "gperm r3 - 4"), api.Inst{Op: api.CANDP, A: 1, B: 2}, api.Inst{Op: api.GPERM, A: 3, C: 4})
	for b := range 128 {
		letter := string(rune(b))
		if !regexp.MustCompile(`[a-zA-Z]`).MatchString(letter) || strings.Contains("rwcdxsu", letter) {
			continue
		}
		checkWrong(t, "5.3", inCode("candp r1 r2 "+letter), api.ErrName, 3)
		checkWrong(t, "5.3", inCode("candp r1 r2 rw"+letter), api.ErrName, 3)
	}
	for _, name := range []string{"r1", "r_w", "none", "rwcdxsur", "rwcdxsurwcdxsurw", "RW"} {
		checkWrong(t, "5.3", inCode("gperm r3 "+name+" 4"), api.ErrName, 3)
		checkWrong(t, "5.3", inCode("root r8 0 0 0 "+name+" 0"), api.ErrName, 3)
		checkWrong(t, "5.3", "depth 1\ngate g 0 0 cap 0 0 0 0 "+name+" 0 ->", api.ErrName, 2)
	}
}

// TestOperations reads each operation with operands of its shape, which is told by chapter 3.
func TestOperations(t *testing.T) {
	var lines []string
	var want []api.Inst
	for op := range 256 {
		i := api.Inst{Op: api.Op(op)}
		name := instr.Name(i.Op)
		if name == "" {
			continue
		}
		shape := instr.Shape(i.Op)
		line := name
		for n := range shape {
			switch shape[n] {
			case 'r':
				line += fmt.Sprintf(" r%d", 3+4*n)
				[]func(){func() { i.A = 3 }, func() { i.B = 7 }, func() { i.C = 11 }}[n]()
			case 'p':
				line += " wu"
				i.Imm = 66
			case 'c':
				line += " 199"
				if name == "trap" {
					i.Imm = 199
				} else {
					i.C = 199
				}
			case 'g':
				line += " 1"
				i.Imm = 1
			default:
				line += " 13"
				i.Imm = 13
			}
		}
		lines, want = append(lines, line), append(want, i)
		checkWrong(t, "5.3", inCode(strings.ToUpper(line)), api.ErrName, 3)
	}
	if len(lines) != 52 {
		t.Errorf("there are %d operations", len(lines))
	}
	checkCode(t, "5.2", inCode(lines...)+"gate h 0 0 ->", want...)
	for _, name := range []string{"foo", "nop", "Li", "lis", "l", "cset", "int", "cap", "at", "bytes", "slots", "r1", "x"} {
		checkWrong(t, "5.3", inCode(name), api.ErrName, 3)
		checkWrong(t, "5.3", inCode("ret", "a: b: "+name+" r1"), api.ErrName, 4)
	}
}

func TestTargets(t *testing.T) {
	jmp := func(l ...int) []api.Inst {
		var code []api.Inst
		for _, n := range l {
			code = append(code, api.Inst{Op: api.JMP, Imm: n})
		}
		return code
	}
	for _, c := range []struct {
		lines []string
		want  []api.Inst
	}{
		{[]string{"a: jmp a"}, jmp(0)},
		{[]string{"jmp b", "b: jmp a", "a: jmp b"}, jmp(1, 2, 1)},
		{[]string{"a: b: jmp c", "c:", "d: e:", "", "jmp d", "jmp e", "f: jmp b"}, jmp(1, 1, 1, 0)},
		{[]string{"a:", "jmp a", "jmp 0", "jmp 0x1", "jmp -0", "jmp 00000000000000000004"}, jmp(0, 0, 1, 0, 4)},
		{[]string{"jmp jmp", "jmp: jmp ret", "ret: jmp root", "root: jmp r1", "r1: jmp int", "int: jmp L", "L: jmp gate", "gate: comp: jmp abcdefghijklmnop", "abcdefghijklmnop: jmp comp"}, jmp(1, 2, 3, 4, 5, 6, 7, 8, 7)},
		{[]string{"jmp A", "a: jmp a", "A: jmp A"}, jmp(2, 1, 2)},
		{[]string{"a: jmp g", "g: jmp a"}, jmp(1, 0)},
	} {
		checkCode(t, "5.2", inCode(c.lines...), c.want...)
	}
	checkCode(t, "5.2", inCode("x: beq r1 r2 z", "y: bne r1 r2 y", "z: blt r1 r2 x", "bge r1 r2 z", "cpc r5 y"),
		api.Inst{Op: api.BEQ, A: 1, B: 2, Imm: 2}, api.Inst{Op: api.BNE, A: 1, B: 2, Imm: 1}, api.Inst{Op: api.BLT, A: 1, B: 2, Imm: 0}, api.Inst{Op: api.BGE, A: 1, B: 2, Imm: 2}, api.Inst{Op: api.CPC, A: 5, Imm: 1})
}

// TestLabelAtTheEnd: a label behind all instructions is how many there are, which is no instruction.
func TestLabelAtTheEnd(t *testing.T) {
	ret := api.Inst{Op: api.RET}
	checkCode(t, "5.2", inCode("ret", "ret", "end:"), ret, ret)
	checkCode(t, "5.2", inCode("ret", "ret", "end: fin:", "last:"), ret, ret)
	checkWrong(t, "5.3", inCode("jmp end", "ret", "end:"), api.ErrTarget, 0)
	checkWrong(t, "5.3", inCode("jmp 2", "ret"), api.ErrTarget, 0)
	checkWrong(t, "5.3", "depth 1\ncomp\nret\nend:\ngate g 0 end ->", api.ErrGate, 0)
	checkWrong(t, "5.3", "depth 1\ncomp\nend:\ngate g 0 end ->", api.ErrCount, 0)
	// The label says how many there are in its own compartment, not in the next one.
	checkWrong(t, "5.3", "depth 1\ncomp\njmp end\nend:\ncomp\nret\nret\ngate g 0 0 ->", api.ErrTarget, 0)
}

func TestLabelsOfTwoCompartments(t *testing.T) {
	text := "depth 1\ncomp\nret\na: jmp a\ncomp\na: jmp b\nret\nb: jmp a\ngate g 0 a ->\ngate h 1 a ->\ngate i 1 b ->"
	want := leastImage()
	want.Comps = []api.Comp{
		{Code: []api.Inst{{Op: api.RET}, {Op: api.JMP, Imm: 1}}},
		{Code: []api.Inst{{Op: api.JMP, Imm: 2}, {Op: api.RET}, {Op: api.JMP, Imm: 0}}},
	}
	want.Gates = []api.Gate{{Comp: 0, Entry: 1}, {Comp: 1, Entry: 0}, {Comp: 1, Entry: 2}}
	checkParse(t, "5.2", text, want)
	checkWrong(t, "5.3", strings.Replace(text, "ret\na: jmp a", "ret\na: jmp b", 1), api.ErrName, 4)
	checkWrong(t, "5.3", strings.Replace(text, "gate g 0 a", "gate g 0 b", 1), api.ErrName, 9)
	checkWrong(t, "5.3", strings.Replace(text, "gate i 1 b", "gate i 2 b", 1), api.ErrName, 11)
	checkWrong(t, "5.3", strings.Replace(text, "gate i 1 b", "gate i 2147483647 b", 1), api.ErrName, 11)
	checkWrong(t, "5.3", strings.Replace(text, "gate i 1 b", "gate i 2 0", 1), api.ErrGate, 0)
}

func TestGateNames(t *testing.T) {
	call := func(n int) api.Inst { return api.Inst{Op: api.CALL, Imm: n} }
	gates := "depth 1\ncomp\n%s\ngate a 0 0 ->\ngate b 0 0 ->\ngate call 0 0 ->\ngate r1 0 0 ->"
	checkCode(t, "5.2", fmt.Sprintf(gates, "call b\na: call r1\ncall call\ncall a\ncall 2\ncall 0x1"), call(1), call(3), call(2), call(0), call(2), call(1))
	checkWrong(t, "5.3", fmt.Sprintf(gates, "call b\ncall c"), api.ErrName, 4)
	checkWrong(t, "5.3", fmt.Sprintf(gates, "call A"), api.ErrName, 3)
	checkWrong(t, "5.3", fmt.Sprintf(gates, "l: call l"), api.ErrName, 3)
	checkWrong(t, "5.3", fmt.Sprintf(gates, "jmp b"), api.ErrName, 3)
	checkWrong(t, "5.3", fmt.Sprintf(gates, "call 4"), api.ErrTarget, 0)
}

// numberPlace is a place where a NUMBER stands, and which ones may be there.
type numberPlace struct {
	text   string // %s is the NUMBER
	lo, hi string
}

const (
	max64 = "18446744073709551615"
	max31 = "2147483647"
	min31 = "-2147483648"
)

func numberPlaces() []numberPlace {
	l := []numberPlace{
		{"depth %s", "0", max31},
		{"depth 1\nregion %s 16 bytes", "0", max64}, {"depth 1\nregion 0 %s slots", "0", max64},
		{"depth 1\nregion 0 16 slots\nslot int at %s", "0", max64},
		{"depth 1\ngate g %s 0 ->", "0", max31}, {"depth 1\ngate g 0 %s ->", "0", max31},
	}
	for n := range 5 {
		row := []string{"0", "0", "0", "0", "-", "0"}
		at, hi := n, max64
		if n == 4 {
			at, hi = 5, "255"
		}
		row[at] = "%s"
		for _, place := range []string{"depth 1\nregion 0 16 slots\nslot cap @ at 0", "depth 1\ngate g 0 0 cap @ ->", "depth 1\ngate g 0 0 -> int cap @"} {
			l = append(l, numberPlace{strings.Replace(place, "@", strings.Join(row, " "), 1), "0", hi})
		}
		if n > 0 {
			l = append(l, numberPlace{"depth 1\ncomp\nroot r8 " + strings.Join(row[1:], " "), "0", hi})
		}
	}
	for line, ends := range map[string][2]string{
		"li r1 %s": {min31, max31}, "addi r1 r2 %s": {min31, max31}, "lw r1 r2 %s": {min31, max31}, "cinci r1 r2 %s": {min31, max31},
		"glt r1 %s 0": {"0", max31}, "gge r1 %s 0": {"0", max31}, "csetbi r1 r2 %s": {"0", "65536"}, "gin r1 %s 0": {"0", "65536"}, "gseal r1 %s 0": {"0", "15"},
		"jmp %s": {"0", max31}, "beq r1 r2 %s": {"0", max31}, "cpc r1 %s": {"0", max31}, "call %s": {"0", max31},
		"trap %s": {"0", "255"}, "glt r1 0 %s": {"0", "255"}, "gtag r1 %s": {"0", "255"}, "gin r1 1 %s": {"0", "255"}, "gperm r1 r %s": {"0", "255"}, "gseal r1 1 %s": {"0", "255"},
	} {
		l = append(l, numberPlace{"depth 1\ncomp\n" + line, ends[0], ends[1]})
	}
	return l
}

// spellings are ways to write a number; none, if it has more than 20 digits.
func spellings(n *big.Int) []string {
	digits := new(big.Int).Abs(n).String()
	if len(digits) > 20 {
		return nil
	}
	wide := strings.Repeat("0", 20-len(digits)) + digits
	if n.Sign() < 0 {
		return []string{"-" + digits, "-" + wide}
	}
	l := []string{digits, wide}
	if n.BitLen() <= 64 {
		l = append(l, fmt.Sprintf("0x%x", n), fmt.Sprintf("0x%016x", n))
	}
	if n.Sign() == 0 {
		l = append(l, "-0", "-00", "-00000000000000000000", "0x0")
	}
	return l
}

func TestNumbers(t *testing.T) {
	var some []*big.Int
	for _, s := range []string{"0", "1", "15", "16", "255", "256", "65535", "65536", "65537", max31, "2147483648", "4294967295", "4294967296", "9223372036854775807", "9223372036854775808", max64, "18446744073709551616", "18446744073709551617", "18446744073709551871", "36893488147419103232", "99999999999999999999", "-1", "-255", "-256", "-2147483647", min31, "-2147483649", "-4294967296", "-9223372036854775808", "-18446744073709551615", "-18446744073709551616", "-99999999999999999999"} {
		n, _ := new(big.Int).SetString(s, 10)
		some = append(some, n)
	}
	for _, p := range numberPlaces() {
		lo, _ := new(big.Int).SetString(p.lo, 10)
		hi, _ := new(big.Int).SetString(p.hi, 10)
		for _, n := range some {
			for _, s := range spellings(n) {
				text := fmt.Sprintf(p.text, s)
				_, e, line := asm.Parse(text)
				if may := lo.Cmp(n) <= 0 && n.Cmp(hi) <= 0; may && line != 0 || !may && (e != api.ErrNumber || line != strings.Count(text, "\n")+1) {
					t.Errorf("5.2: Parse(%q): %d, line %d (from %s to %s may be)", text, e, line, p.lo, p.hi)
				}
			}
		}
	}
}

// TestWhatNumbersSay reads numbers in all their spellings.
func TestWhatNumbersSay(t *testing.T) {
	for _, n := range []int64{0, 1, 9, 10, 15, 16, 99, 255, 65536, 1<<31 - 1, -1, -9, -10, -65536, -1 << 31} {
		for _, s := range spellings(big.NewInt(n)) {
			checkCode(t, "5.1", inCode("li r1 "+s), api.Inst{Op: api.LI, A: 1, Imm: int(n)})
		}
	}
	for _, n := range []uint64{0, 1, 1 << 31, 1 << 32, 1 << 63, 0x0123456789abcdef, 0xfedcba9876543210, top - 1, top} {
		m := leastImage()
		m.Comps[0].Roots = []api.Root{{Reg: 8, Cap: api.Cap{Cursor: n}}}
		for _, s := range spellings(new(big.Int).SetUint64(n)) {
			checkParse(t, "5.1", inCode("root r8 0 0 "+s+" - 0", "ret"), m)
		}
	}
}
