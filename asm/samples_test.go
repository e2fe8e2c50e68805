package asm_test

import (
	"fmt"
	"slices"
	"strings"
	"testing"

	"paddock/api"
	"paddock/asm"
)

const top = ^uint64(0)

// sample is the text of example 1, samplePrinted is how Print writes it, sampleImage what it says.
const sample = `depth 2
region 0 32 bytes #0102   ; two bytes, then noughts
region 32 16 slots
  slot cap 0 32 0 31 rw 0 at 4
comp
  root r8 0 32 0 rw 0
top: lb r1 r8 0
  bne r1 r0 top
  halt r1
gate main 0 top -> int
`

const samplePrinted = `depth 2
region 0 32 bytes #0102
region 32 16 slots
  slot cap 0 32 0 31 rw 0 at 4
comp
  root r8 0 32 0 rw 0
L0:
  lb r1 r8 0
  bne r1 r0 L0
  halt r1
gate G0 0 L0 -> int
`

func sampleImage() api.Image {
	return api.Image{
		Depth: 2,
		Regions: []api.Region{
			{Base: 0, Len: 32, Data: "\x01\x02"},
			{Base: 32, Len: 16, Slots: []api.Slot{{Type: api.Type{Cap: true, Base: 0, End: 32, Lo: 0, Hi: 31, Perms: 3, Seal: 0}, Cursor: 4}}},
		},
		Comps: []api.Comp{{
			Roots: []api.Root{{Reg: 8, Cap: api.Cap{Base: 0, End: 32, Cursor: 0, Perms: 3, Seal: 0}}},
			Code:  []api.Inst{{Op: api.LB, A: 1, B: 8, Imm: 0}, {Op: api.BNE, A: 1, B: 0, Imm: 0}, {Op: api.HALT, A: 1}},
		}},
		Gates: []api.Gate{{Comp: 0, Entry: 0, Results: []api.Type{{}}}},
	}
}

// rich says something of everything, by hand; no two numbers of one thing are alike.
const rich = `
	; a program of three compartments
depth 0x7
region 272 32 bytes #610062;noughts are in it
region	0x1200 0x20 slots
slot cap 168496141 235868177 72623859790382856 0x2131415161718191 uwscdr 5 at 0x1112131415161718
slot cap 9 4294967296 0 18446744073709551615 - 15 at -0

region 4640 16 bytes #   ; none
region 4672 16 bytes
comp ;;;
root r8 0x01020304 0x05060708 0x2122232425262728 wr 0
root r15 00 0000 0 us 02
again: back: li r1 -2
call far
again2:
	jmp end
end: beq r1 r2 again
comp
call 0
again: cpc r3 again ; the one of this compartment
  end:
ret
comp
trap 200
gperm r9 c 33
gate near 0 end int cap 168496141 235868177 72623859790382856 2391764694893429137 rwcdsu 5 -> int
gate far 1 1 -> int int cap 1 2 3 4 - 0
gate again 01 end ->
gate end 2 1 int int int int int int int -> int int int int int int int`

const richPrinted = `depth 7
region 272 32 bytes #610062
region 4608 32 slots
  slot cap 168496141 235868177 72623859790382856 2391764694893429137 rwcdsu 5 at 1230066625199609624
  slot cap 9 4294967296 0 18446744073709551615 - 15 at 0
region 4640 16 bytes
region 4672 16 bytes
comp
  root r8 16909060 84281096 2387509390608836392 rw 0
  root r15 0 0 0 su 2
L0:
  li r1 -2
  call G1
  jmp L3
L3:
  beq r1 r2 L0
comp
  call G0
L1:
  cpc r3 L1
L2:
  ret
comp
  trap 200
L1:
  gperm r9 c 33
gate G0 0 L3 int cap 168496141 235868177 72623859790382856 2391764694893429137 rwcdsu 5 -> int
gate G1 1 L1 -> int int cap 1 2 3 4 - 0
gate G2 1 L2 ->
gate G3 2 L1 int int int int int int int -> int int int int int int int
`

func richImage() api.Image {
	wide := api.Type{Cap: true, Base: 0x0a0b0c0d, End: 0x0e0f1011, Lo: 0x0102030405060708, Hi: 0x2131415161718191, Perms: 0x6f, Seal: 5}
	return api.Image{
		Depth: 7,
		Regions: []api.Region{
			{Base: 0x110, Len: 0x20, Data: "a\x00b"},
			{Base: 0x1200, Len: 0x20, Slots: []api.Slot{{Type: wide, Cursor: 0x1112131415161718}, {Type: api.Type{Cap: true, Base: 9, End: 1 << 32, Hi: top, Seal: 15}}}},
			{Base: 0x1220, Len: 0x10},
			{Base: 0x1240, Len: 0x10},
		},
		Comps: []api.Comp{
			{
				Roots: []api.Root{{Reg: 8, Cap: api.Cap{Base: 0x01020304, End: 0x05060708, Cursor: 0x2122232425262728, Perms: 3}}, {Reg: 15, Cap: api.Cap{Perms: 96, Seal: 2}}},
				Code:  []api.Inst{{Op: api.LI, A: 1, Imm: -2}, {Op: api.CALL, Imm: 1}, {Op: api.JMP, Imm: 3}, {Op: api.BEQ, A: 1, B: 2, Imm: 0}},
			},
			{Code: []api.Inst{{Op: api.CALL}, {Op: api.CPC, A: 3, Imm: 1}, {Op: api.RET}}},
			{Code: []api.Inst{{Op: api.TRAP, Imm: 200}, {Op: api.GPERM, A: 9, C: 33, Imm: 4}}},
		},
		Gates: []api.Gate{
			{Comp: 0, Entry: 3, Args: []api.Type{{}, wide}, Results: []api.Type{{}}},
			{Comp: 1, Entry: 1, Results: []api.Type{{}, {}, {Cap: true, Base: 1, End: 2, Lo: 3, Hi: 4}}},
			{Comp: 1, Entry: 2},
			{Comp: 2, Entry: 1, Args: make([]api.Type, 7), Results: make([]api.Type, 7)},
		},
	}
}

// leastImage is a program in which as little as may be stands.
func leastImage() api.Image {
	return api.Image{Depth: 1, Comps: []api.Comp{{Code: []api.Inst{{Op: api.RET}}}}, Gates: []api.Gate{{}}}
}

const leastPrinted = "depth 1\ncomp\nL0:\n  ret\ngate G0 0 L0 ->\n"

// inCode is a text of one compartment with some lines of code, the first of which is line 3, and one gate.
func inCode(lines ...string) string {
	return "depth 1\ncomp\n" + strings.Join(lines, "\n") + "\ngate g 0 0 ->\n"
}

// same tells whether two programs are the same; lists without elements are alike.
func same(a, b api.Image) bool {
	region := func(a, b api.Region) bool {
		return a.Base == b.Base && a.Len == b.Len && a.Data == b.Data && slices.Equal(a.Slots, b.Slots)
	}
	comp := func(a, b api.Comp) bool { return slices.Equal(a.Roots, b.Roots) && slices.Equal(a.Code, b.Code) }
	gate := func(a, b api.Gate) bool {
		return a.Comp == b.Comp && a.Entry == b.Entry && slices.Equal(a.Args, b.Args) && slices.Equal(a.Results, b.Results)
	}
	return a.Depth == b.Depth && slices.EqualFunc(a.Regions, b.Regions, region) && slices.EqualFunc(a.Comps, b.Comps, comp) && slices.EqualFunc(a.Gates, b.Gates, gate)
}

// short keeps what a test tells within bounds.
func short(what any) string {
	s := fmt.Sprintf("%+v", what)
	if len(s) > 600 {
		return s[:600] + "…"
	}
	return s
}

func checkParse(t *testing.T, promise string, text string, want api.Image) {
	t.Helper()
	if m, e, line := asm.Parse(text); e != api.OK || line != 0 || !same(m, want) {
		t.Errorf("%s: Parse(%q) = %s, %d, line %d, want %s", promise, short(text), short(m), e, line, short(want))
	}
}

func checkWrong(t *testing.T, promise string, text string, want api.Errno, at int) {
	t.Helper()
	m, e, line := asm.Parse(text)
	if e != want || line != at {
		t.Errorf("%s: Parse(%q): %d, line %d, want %d, line %d", promise, short(text), e, line, want, at)
	}
	if e != api.OK && (m.Depth != 0 || m.Regions != nil || m.Comps != nil || m.Gates != nil) {
		t.Errorf("%s: Parse(%q) answers a program beside its error: %s", promise, short(text), short(m))
	}
}

// checkCode holds what lines of code say against instructions.
func checkCode(t *testing.T, promise string, text string, want ...api.Inst) {
	t.Helper()
	m, e, line := asm.Parse(text)
	if e != api.OK || line != 0 || len(m.Comps) != 1 || !slices.Equal(m.Comps[0].Code, want) {
		t.Errorf("%s: Parse(%q) = %s, %d, line %d, want the code %s", promise, short(text), short(m), e, line, short(want))
	}
}

func checkPrint(t *testing.T, m api.Image, want string) {
	t.Helper()
	if s, e := asm.Print(m); s != want || e != api.OK {
		t.Errorf("5.4: Print(%s) = %q, %d, want %q", short(m), short(s), e, short(want))
	}
}

func TestExamples(t *testing.T) {
	checkParse(t, "example 1", sample, sampleImage())
	checkPrint(t, sampleImage(), samplePrinted)
	checkParse(t, "example 1", samplePrinted, sampleImage())

	checkWrong(t, "example 2", "depth 1\ncomp\n  halt r16", api.ErrName, 3)
	checkWrong(t, "example 2", "depth 1\ncomp\n  halt 1", api.ErrForm, 3)
	checkWrong(t, "example 2", "depth 1\ncomp\n  li r1 4294967296", api.ErrNumber, 3)
	checkWrong(t, "example 2", inCode("  ret", "  jmp away"), api.ErrName, 4)
	checkWrong(t, "example 2", "\n; nothing\n\ncomp\n  ret\n", api.ErrForm, 4)
	checkWrong(t, "example 2", "", api.ErrForm, 1)
	checkWrong(t, "example 2", "\n\n \t; nothing\n", api.ErrForm, 1)

	checkWrong(t, "example 3", "depth 1\ncomp\n", api.ErrCount, 0)
}

func TestRich(t *testing.T) {
	checkParse(t, "5.2", rich, richImage())
	checkParse(t, "5.2", rich+"\n", richImage())
	checkPrint(t, richImage(), richPrinted)
	checkParse(t, "5.5", richPrinted, richImage())
}

// TestExamplesOfTheWhole reads the programs of the document's examples.
func TestExamplesOfTheWhole(t *testing.T) {
	inst := func(op api.Op, a, b, c, imm int) api.Inst { return api.Inst{Op: op, A: a, B: b, C: c, Imm: imm} }
	lent := api.Type{Cap: true, End: 32, Perms: api.Load}
	checkParse(t, "example 4 of the whole", "depth 2\nregion 0 32 bytes #01020304\ncomp\nroot r8 0 32 0 rw 0\ncandp r1 r8 r\ncall peek\nhalt r1\ncomp\nlb r1 r1 3\nret\ngate main 0 0 ->\ngate peek 1 0 cap 0 32 0 0 r 0 -> int", api.Image{
		Depth:   2,
		Regions: []api.Region{{Len: 32, Data: "\x01\x02\x03\x04"}},
		Comps: []api.Comp{
			{Roots: []api.Root{{Reg: 8, Cap: api.Cap{End: 32, Perms: api.Load | api.Store}}}, Code: []api.Inst{inst(api.CANDP, 1, 8, 0, 1), inst(api.CALL, 0, 0, 0, 1), inst(api.HALT, 1, 0, 0, 0)}},
			{Code: []api.Inst{inst(api.LB, 1, 1, 0, 3), inst(api.RET, 0, 0, 0, 0)}},
		},
		Gates: []api.Gate{{}, {Comp: 1, Args: []api.Type{lent}, Results: []api.Type{{}}}},
	})
	checkCode(t, "example 3 of the whole", "depth 1\nregion 0 32 bytes #05060708\ncomp\nroot r8 0 32 0 r 0\nli r1 0\nli r2 0\nli r3 4\nnext: bge r2 r3 done\nglt r2 32 9\ncinc r4 r8 r2\nlb r5 r4 0\nadd r1 r1 r5\naddi r2 r2 1\njmp next\ndone: halt r1\ngate main 0 0 ->",
		inst(api.LI, 1, 0, 0, 0), inst(api.LI, 2, 0, 0, 0), inst(api.LI, 3, 0, 0, 4), inst(api.BGE, 2, 3, 0, 10), inst(api.GLT, 2, 0, 9, 32), inst(api.CINC, 4, 8, 2, 0), inst(api.LB, 5, 4, 0, 0), inst(api.ADD, 1, 1, 5, 0), inst(api.ADDI, 2, 2, 0, 1), inst(api.JMP, 0, 0, 0, 3), inst(api.HALT, 1, 0, 0, 0))
	checkCode(t, "example 7 of the whole", "depth 1\ncomp\ncpc r1 3\njc r1\ntrap 7\nctag r2 r1\nhalt r2\ngate main 0 0 ->",
		inst(api.CPC, 1, 0, 0, 3), inst(api.JC, 1, 0, 0, 0), inst(api.TRAP, 0, 0, 0, 7), inst(api.CTAG, 2, 1, 0, 0), inst(api.HALT, 2, 0, 0, 0))
	checkCode(t, "example 9 of the whole", "depth 1\ncomp\ntop: jmp top\ngate main 0 0 ->", inst(api.JMP, 0, 0, 0, 0))
}
