package thread_test

import (
	"fmt"
	"slices"
	"strings"
	"testing"

	"paddock/api"
	"paddock/thread"
)

func TestBlocks(t *testing.T) {
	for _, c := range []struct {
		code  string
		entry int
		want  int
	}{
		// Without any jump.
		{"fnop", 0, 1}, {"fnop;fnop;fnop;fnop", 0, 1}, {"fli a1 i2;fmov a2 b1;fadd a3 b1 c2;fin a1;fout a2;flb a3 b4;fsw a1 b5;flc a1 b2;fsc a1 b2;fglt a1 i9;fgge a2 i3;fhalt", 0, 1},
		// The Entry.
		{"fnop;fnop;fnop;fnop", 1, 2}, {"fnop;fnop;fnop;fnop", 2, 2}, {"fnop;fnop;fnop;fnop", 3, 2},
		// Each instruction begins a row.
		{"fjmp;fjmp;fjmp;fjmp", 0, 4}, {"fhalt;fhalt;fhalt", 0, 3}, {"fret;ftrap;fguard;fcall;fnop", 0, 5}, {"fnop;fjmp i1;fjmp i2;fnop", 0, 4}, {"fnop;fnop;fnop;fbeq i1;fbne i2;fblt i3", 0, 6},
		// Two jumps that name one instruction.
		{"fnop;fnop;fnop;fjmp i1;fjmp i1", 0, 3}, {"fjmp i2;fbeq i2;fnop", 0, 3}, {"fbeq i3;fbne i3;fnop;fnop", 0, 4},
		// A jump that names the first one, the one behind it, itself, the Entry, the last one.
		{"fnop;fnop;fjmp", 0, 1}, {"fnop;fjmp;fnop", 0, 2}, {"fjmp i1;fnop", 0, 2}, {"fnop;fjmp i2;fnop", 0, 2}, {"fjmp", 0, 1}, {"fnop;fjmp i1;fnop", 0, 3}, {"fnop;fnop;fjmp i2", 0, 2},
		{"fnop;fnop;fnop;fjmp i1", 1, 2}, {"fnop;fnop;fnop;fjmp i1", 2, 3}, {"fjmp i3;fnop;fnop;fnop", 0, 3}, {"fnop;fjmp i3;fnop;fnop", 0, 3}, {"fjmp i3;fnop;fnop;fnop", 3, 3},
		// What goes on elsewhere, or ends, as the last one.
		{"fnop;fhalt", 0, 1}, {"fnop;ftrap", 0, 1}, {"fnop;fcall", 0, 1}, {"fnop;fret", 0, 1}, {"fnop;fguard", 0, 1}, {"fnop;fjmp", 0, 1}, {"fnop;fbeq", 0, 1}, {"fnop;fbne", 0, 1}, {"fnop;fblt", 0, 1}, {"fnop;fbge", 0, 1},
		// And ahead of it.
		{"fnop;fhalt;fnop", 0, 2}, {"fnop;ftrap;fnop", 0, 2}, {"fnop;fcall;fnop", 0, 2}, {"fnop;fret;fnop", 0, 2}, {"fnop;fguard;fnop", 0, 2}, {"fnop;fbeq;fnop", 0, 2}, {"fnop;fbne;fnop", 0, 2}, {"fnop;fblt;fnop", 0, 2}, {"fnop;fbge;fnop", 0, 2},
		{"fhalt;fnop;fnop", 0, 2}, {"fcall;fnop;fnop", 0, 2}, {"fguard;fnop;fnop", 0, 2},
		// It is the place behind an end at which a row begins, and not the end.
		{"fnop;fhalt;fnop", 2, 2}, {"fnop;fhalt;fnop", 1, 3}, {"fnop;fcall;fret", 2, 2},
		// Numbers that are no instructions' of this code.
		{"ftrap i2;fnop;fnop;fnop", 0, 2}, {"fli i2;fnop;fnop;fnop", 0, 1}, {"fglt a1 i2;fnop;fnop;fnop", 0, 1}, {"faddi a1 b1 i3;flb a1 i2;fnop;fnop", 0, 1}, {"fhalt i3;fret i3;fguard i3;fnop;fnop", 0, 4},
		// The chapter's second example.
		{"fli a1 i3;faddi a1 b1 i-1;fbne a1 b0 i1;fhalt a1", 0, 3},
	} {
		p := plain(t, 1, c.code)
		p.Gates[0].Entry = c.entry
		checkBlocks(t, fmt.Sprintf("%s, Entry %d", c.code, c.entry), p, 0, c.want)
		for _, gate := range []int{least, -1, 1, 2, 15, 16, 1 << 32, most} {
			checkBlocks(t, c.code, p, gate, 0)
		}
	}
}

// TestBlocksOfEachOperation: which of them end a row, and which name an instruction.
func TestBlocksOfEachOperation(t *testing.T) {
	for _, op := range ops() {
		p := plain(t, 1, "fnop;fnop;fnop;fnop;fnop;fnop;fnop")
		p.Code[0][2] = api.FInst{Op: op}
		want := 1
		if namesOne(op) || slices.Contains([]api.FOp{api.FHALT, api.FTRAP, api.FCALL, api.FRET, api.FGUARD}, op) {
			want = 2
		}
		checkBlocks(t, nameOf(op), p, 0, want)
		if op == api.FCALL {
			continue
		}
		p.Code[0][2].Imm = 5
		if namesOne(op) {
			want = 3
		}
		checkBlocks(t, nameOf(op)+" 5", p, 0, want)
	}
}

// TestBlocksOfGates: of each gate its own code's, whatever the other ones are, and whatever is called.
func TestBlocksOfGates(t *testing.T) {
	p := api.Program{Code: [][]api.FInst{bare(t, "fnop;fcall i2;fnop;fnop"), bare(t, "fjmp i2;fnop;fnop;fjmp i1"), bare(t, "fnop;fnop;fnop;fnop;fnop")}, Gates: []api.FEntry{{}, {Entry: 3}, {Entry: 1}}}
	for gate, want := range map[int]int{-1: 0, 0: 2, 1: 4, 2: 2, 3: 0, 16: 0} {
		checkBlocks(t, "three gates", p, gate, want)
	}
	p.Code[2][0] = api.FInst{Op: api.FJMP, Imm: 5}
	for gate := -1; gate < 4; gate++ {
		checkBlocks(t, "a program that may not be", p, gate, 0)
	}
	p = api.Program{Code: many(16, bare(t, "fnop;fnop;fhalt")), Gates: many(16, api.FEntry{Entry: 2})}
	p.Code[15] = many(400, api.FInst{Op: api.FBNE, Imm: 399})
	for gate := range 18 {
		checkBlocks(t, "sixteen gates", p, gate, map[bool]int{true: 2}[gate < 15]+map[bool]int{true: 400}[gate == 15])
	}
}

// modelBlocks counts by 23.3's words, one by one.
func modelBlocks(code []api.FInst, entry int) int {
	n := 0
	for pc := range code {
		isFirst := pc == 0 || pc == entry
		for _, i := range code {
			isFirst = isFirst || namesOne(i.Op) && i.Imm == uint64(pc)
		}
		if pc > 0 {
			ahead := nameOf(code[pc-1].Op)
			isFirst = isFirst || strings.Contains(" fjmp fbeq fbne fblt fbge fhalt ftrap fcall fret fguard ", " "+ahead+" ")
		}
		if isFirst {
			n++
		}
	}
	return n
}

func TestBlocksOfDice(t *testing.T) {
	counts := map[int]int{}
	for seed := range uint64(3000) {
		p := rolled(seed).program()
		c := thread.Compile(p)
		for gate, code := range p.Code {
			want := modelBlocks(code, p.Gates[gate].Entry)
			counts[want]++
			if n := c.Blocks(gate); n != want || c.Blocks(gate) != n {
				t.Fatalf("23.3: program %d: Blocks(%d) is %d, want %d, of\n%v", seed, gate, n, want, code)
			}
		}
	}
	for n := 1; n <= 12; n++ {
		if counts[n] < 20 {
			t.Errorf("23.3: codes of %d rows came %d times: they are too narrow", n, counts[n])
		}
	}
}
