package asm_test

import (
	"fmt"
	"math"
	"slices"
	"strconv"
	"strings"
	"testing"

	"paddock/api"
	"paddock/asm"
	"paddock/image"
)

func checkNotPrinted(t *testing.T, what string, m api.Image, want api.Errno) {
	t.Helper()
	if s, e := asm.Print(m); s != "" || e != want {
		t.Errorf("5.4: Print of %s: %q, %d, want %d", what, short(s), e, want)
	}
}

// printedCode is how the one compartment of a program is written, if its gate goes to the first instruction.
func printedCode(lines ...string) string {
	return "depth 1\ncomp\nL0:\n" + strings.Join(lines, "\n") + "\ngate G0 0 L0 ->\n"
}

func withCode(code ...api.Inst) api.Image {
	m := leastImage()
	m.Comps[0].Code = code
	return m
}

func TestPrintLeast(t *testing.T) {
	checkPrint(t, leastImage(), leastPrinted)
	m := leastImage()
	m.Regions, m.Comps[0].Roots, m.Gates[0].Args, m.Gates[0].Results = []api.Region{}, []api.Root{}, []api.Type{}, []api.Type{}
	checkPrint(t, m, leastPrinted)
}

func TestPrintOperands(t *testing.T) {
	checkPrint(t, withCode(
		api.Inst{Op: api.LI, A: 15, Imm: math.MinInt32}, api.Inst{Op: api.LI, Imm: math.MaxInt32}, api.Inst{Op: api.LI, A: 10, Imm: -1},
		api.Inst{Op: api.MOV, A: 1, B: 2}, api.Inst{Op: api.ADD, A: 3, B: 4, C: 5}, api.Inst{Op: api.ADDI, A: 6, B: 7, Imm: -80},
		api.Inst{Op: api.JC, A: 9}, api.Inst{Op: api.TRAP, Imm: 255}, api.Inst{Op: api.TRAP}, api.Inst{Op: api.CALL}, api.Inst{Op: api.RET},
		api.Inst{Op: api.CSETBI, A: 1, B: 2, Imm: 65536}, api.Inst{Op: api.CANDP, A: 1, B: 2, Imm: 127}, api.Inst{Op: api.CANDP, A: 1, B: 2},
		api.Inst{Op: api.GLT, A: 1, C: 2, Imm: 3}, api.Inst{Op: api.GGE, A: 4, C: 255, Imm: math.MaxInt32}, api.Inst{Op: api.GTAG, A: 5, C: 6}, api.Inst{Op: api.GIN, A: 7, C: 8, Imm: 9},
		api.Inst{Op: api.GPERM, A: 10, C: 11, Imm: 16}, api.Inst{Op: api.GPERM, A: 10}, api.Inst{Op: api.GSEAL, A: 12, C: 13, Imm: 14},
	), printedCode(
		"  li r15 -2147483648", "  li r0 2147483647", "  li r10 -1",
		"  mov r1 r2", "  add r3 r4 r5", "  addi r6 r7 -80",
		"  jc r9", "  trap 255", "  trap 0", "  call G0", "  ret",
		"  csetbi r1 r2 65536", "  candp r1 r2 rwcdxsu", "  candp r1 r2 -",
		"  glt r1 3 2", "  gge r4 2147483647 255", "  gtag r5 6", "  gin r7 9 8",
		"  gperm r10 x 11", "  gperm r10 - 0", "  gseal r12 14 13"))
}

func TestPrintPerms(t *testing.T) {
	for perms := range 128 {
		name := orders(perms)[0]
		if perms == 0 {
			name = "-"
		}
		checkPrint(t, withCode(api.Inst{Op: api.CANDP, A: 1, B: 2, Imm: perms}), printedCode("  candp r1 r2 "+name))
	}
}

// TestPrintLabels: what is gone to has a label, once, and nothing else has one.
func TestPrintLabels(t *testing.T) {
	ret, halt := api.Inst{Op: api.RET}, api.Inst{Op: api.HALT, A: 3}
	for _, c := range []struct {
		inst api.Inst
		text string
	}{
		{api.Inst{Op: api.JMP, Imm: 2}, "jmp L2"}, {api.Inst{Op: api.CPC, A: 1, Imm: 2}, "cpc r1 L2"},
		{api.Inst{Op: api.BEQ, A: 1, B: 4, Imm: 2}, "beq r1 r4 L2"}, {api.Inst{Op: api.BNE, A: 1, B: 4, Imm: 2}, "bne r1 r4 L2"}, {api.Inst{Op: api.BLT, A: 1, B: 4, Imm: 2}, "blt r1 r4 L2"}, {api.Inst{Op: api.BGE, A: 1, B: 4, Imm: 2}, "bge r1 r4 L2"},
	} {
		checkPrint(t, withCode(ret, c.inst, halt), printedCode("  ret", "  "+c.text, "L2:", "  halt r3"))
		checkPrint(t, withCode(c.inst, ret, halt, c.inst), printedCode("  "+c.text, "  ret", "L2:", "  halt r3", "  "+c.text))
		c.inst.Imm = 1
		checkPrint(t, withCode(ret, c.inst, halt), printedCode("  ret", "L1:", "  "+strings.Replace(c.text, "L2", "L1", 1), "  halt r3"))
	}
	// Numbers that are no targets make no labels.
	for _, c := range []struct {
		inst api.Inst
		text string
	}{
		{api.Inst{Op: api.LI, A: 1, Imm: 2}, "li r1 2"}, {api.Inst{Op: api.TRAP, Imm: 2}, "trap 2"}, {api.Inst{Op: api.ADDI, A: 1, B: 1, Imm: 2}, "addi r1 r1 2"}, {api.Inst{Op: api.GTAG, A: 1, C: 2}, "gtag r1 2"}, {api.Inst{Op: api.CSETBI, A: 1, B: 1, Imm: 2}, "csetbi r1 r1 2"},
	} {
		checkPrint(t, withCode(ret, c.inst, halt), printedCode("  ret", "  "+c.text, "  halt r3"))
	}
}

// TestPrintLabelsOfCompartments: a label stands in the compartment in which it is gone to, and for a gate in its own.
func TestPrintLabelsOfCompartments(t *testing.T) {
	code := []api.Inst{{Op: api.RET}, {Op: api.CALL, Imm: 2}, {Op: api.RET}}
	m := api.Image{Depth: 1, Comps: []api.Comp{{Code: slices.Clone(code)}, {Code: slices.Clone(code)}}, Gates: []api.Gate{{Comp: 1, Entry: 2}, {Comp: 0, Entry: 1}, {Comp: 1, Entry: 2}}}
	checkPrint(t, m, "depth 1\ncomp\n  ret\nL1:\n  call G2\n  ret\ncomp\n  ret\n  call G2\nL2:\n  ret\ngate G0 1 L2 ->\ngate G1 0 L1 ->\ngate G2 1 L2 ->\n")
	m.Comps[0].Code[0] = api.Inst{Op: api.JMP, Imm: 2}
	m.Comps[1].Code[2] = api.Inst{Op: api.JMP, Imm: 0}
	checkPrint(t, m, "depth 1\ncomp\n  jmp L2\nL1:\n  call G2\nL2:\n  ret\ncomp\nL0:\n  ret\n  call G2\nL2:\n  jmp L0\ngate G0 1 L2 ->\ngate G1 0 L1 ->\ngate G2 1 L2 ->\n")
}

// TestPrintAllThatMayBe writes a program with as many of all things as there may be.
func TestPrintAllThatMayBe(t *testing.T) {
	var m api.Image
	m.Depth = api.MaxDepth
	var text strings.Builder
	text.WriteString("depth 16\n")
	for n := range api.MaxRegions {
		m.Regions = append(m.Regions, api.Region{Base: uint64(n) * 8192, Len: 8192, Data: strings.Repeat("\xa5", n)})
		fmt.Fprintf(&text, "region %d 8192 bytes", n*8192)
		if n > 0 {
			text.WriteString(" #" + strings.Repeat("a5", n))
		}
		text.WriteString("\n")
	}
	for range api.MaxComps {
		var c api.Comp
		text.WriteString("comp\n")
		for reg := 8; reg < 16; reg++ {
			c.Roots = append(c.Roots, api.Root{Reg: reg, Cap: api.Cap{Base: 1, End: 1 << 32, Cursor: top, Perms: 64, Seal: 15}})
			fmt.Fprintf(&text, "  root r%d 1 4294967296 18446744073709551615 u 15\n", reg)
		}
		for n := range api.MaxCode {
			c.Code = append(c.Code, api.Inst{Op: api.JMP, Imm: (n + 7) % api.MaxCode})
			fmt.Fprintf(&text, "L%d:\n  jmp L%d\n", n, (n+7)%api.MaxCode)
		}
		m.Comps = append(m.Comps, c)
	}
	for n := range api.MaxGates {
		m.Gates = append(m.Gates, api.Gate{Comp: n % 4, Entry: 399 - n, Args: make([]api.Type, n%8), Results: make([]api.Type, 7-n%8)})
		fmt.Fprintf(&text, "gate G%d %d L%d %s->%s\n", n, n%4, 399-n, strings.Repeat("int ", n%8), strings.Repeat(" int", 7-n%8))
	}
	checkPrint(t, m, text.String())
	checkParse(t, "5.5", text.String(), m)
}

// longImage is a right program whose text has just so many bytes.
func longImage(bytes int) (api.Image, string) {
	m := leastImage()
	// Data has two bytes more for each of its own, so a digit of the depth makes a number even or odd.
	m.Depth = []int{1, 10}[bytes%2]
	head := "depth " + strconv.Itoa(m.Depth) + "\nregion 0 65536 bytes #"
	tail := "\n" + strings.TrimPrefix(leastPrinted, "depth 1\n")
	data := (bytes - len(head) - len(tail)) / 2
	m.Regions = []api.Region{{Len: api.MaxMem, Data: strings.Repeat("\x0f", data)}}
	return m, head + strings.Repeat("0f", data) + tail
}

func TestLongestPrint(t *testing.T) {
	for _, n := range []int{api.MaxText - 2, api.MaxText - 1, api.MaxText} {
		m, text := longImage(n)
		if len(text) != n {
			t.Fatalf("the text has %d bytes, not %d", len(text), n)
		}
		checkPrint(t, m, text)
		checkParse(t, "5.5", text, m)
	}
	for _, n := range []int{api.MaxText + 1, api.MaxText + 2, 2 * api.MaxText} {
		m, text := longImage(n)
		checkNotPrinted(t, fmt.Sprintf("a program whose text has %d bytes", len(text)), m, api.ErrLong)
		checkWrong(t, "5.3", text, api.ErrLong, 0)
	}
	// The longest program of all.
	m := leastImage()
	wide := api.Type{Cap: true, Base: 1 << 32, End: 1 << 32, Lo: top, Hi: top, Perms: 111, Seal: 15}
	m.Regions = []api.Region{{Len: api.MaxMem, Slots: slices.Repeat([]api.Slot{{Type: wide, Cursor: top}}, api.MaxMem/api.Granule)}}
	checkNotPrinted(t, "4096 slots", m, api.ErrLong)
}

// TestPrintNotRight: what may not be has no text, however long that were; the error is chapter 4's.
func TestPrintNotRight(t *testing.T) {
	for what, c := range map[string]struct {
		do   func(m *api.Image)
		want api.Errno
	}{
		"nothing":          {func(m *api.Image) { *m = api.Image{} }, api.ErrCount},
		"no depth":         {func(m *api.Image) { m.Depth = 0 }, api.ErrCount},
		"a depth below 0":  {func(m *api.Image) { m.Depth = math.MinInt }, api.ErrCount},
		"no compartment":   {func(m *api.Image) { m.Comps = nil }, api.ErrCount},
		"no gate":          {func(m *api.Image) { m.Gates = nil }, api.ErrCount},
		"no code":          {func(m *api.Image) { m.Comps[0].Code = nil }, api.ErrCount},
		"a wrong region":   {func(m *api.Image) { m.Regions[0].Len = 7 }, api.ErrRegion},
		"a nought at last": {func(m *api.Image) { m.Regions[0].Data = "a\x00" }, api.ErrRegion},
		"a wrong slot":     {func(m *api.Image) { m.Regions[1].Slots[1].Type.Cap = false }, api.ErrSlot},
		"a wrong root":     {func(m *api.Image) { m.Comps[0].Roots[0].Reg = -1 }, api.ErrRoot},
		"no operation":     {func(m *api.Image) { m.Comps[1].Code[0].Op = 14 }, api.ErrOp},
		"a wrong field":    {func(m *api.Image) { m.Comps[0].Code[0].A = 16 }, api.ErrField},
		"a wrong target":   {func(m *api.Image) { m.Comps[0].Code[2].Imm = 4 }, api.ErrTarget},
		"a target below 0": {func(m *api.Image) { m.Comps[0].Code[2].Imm = -1 }, api.ErrField},
		"a call to no one": {func(m *api.Image) { m.Comps[0].Code[1].Imm = 4 }, api.ErrTarget},
		"a wrong entry":    {func(m *api.Image) { m.Gates[1].Entry = -1 }, api.ErrGate},
		"a wrong comp":     {func(m *api.Image) { m.Gates[1].Comp = 3 }, api.ErrGate},
		"a wrong type":     {func(m *api.Image) { m.Gates[0].Args[0].Seal = 1 }, api.ErrType},
	} {
		m := richImage()
		c.do(&m)
		if image.Right(m) != c.want {
			t.Errorf("%s is no example of %d", what, c.want)
		}
		checkNotPrinted(t, what, m, c.want)
	}
	m, _ := longImage(2 * api.MaxText)
	m.Gates[0].Entry = 1
	checkNotPrinted(t, "a long program that is not right", m, api.ErrGate)
}

func TestPrintLeavesWhatIsHandedIn(t *testing.T) {
	for _, of := range []func() api.Image{sampleImage, richImage, leastImage} {
		m := of()
		for n := range m.Comps {
			m.Comps[n].Code = slices.Grow(m.Comps[n].Code, 4)
		}
		asm.Print(m)
		if !same(m, of()) {
			t.Errorf("Print has made %s of what was handed in", short(m))
		}
	}
}
