package checker_test

import (
	"testing"

	"paddock/api"
	"paddock/checker"
)

// TestMost: of programs with heads and without, of several gates and compartments.
func TestMost(t *testing.T) {
	two := "depth 2;comp;x: li r1 1;y: bne r1 r0 x;ret;comp;u: jmp u;v: jmp v;"
	for _, c := range []struct {
		text string
		want int
	}{
		{alone("ret"), 1},
		{alone("li r1 1", "beq r1 r0 3", "out r1", "ret"), 4},
		{alone("a: jmp a"), 1 + per},
		{alone("li r1 5", "a: addi r1 r1 -1", "bne r1 r0 a", "halt r1"), 4 * (1 + per)},
		{alone("a: beq r1 r0 a", "b: beq r1 r0 b", "jmp a"), 3 * (1 + 2*per)},
		// Two ways back to one head, and two heads of which one is in the other's round.
		{alone("a: beq r1 r0 a", "jmp a", "jmp a"), 3 * (1 + per)},
		{alone("a: in r1", "b: in r2", "bne r2 r0 b", "bne r1 r0 a", "ret"), 5 * (1 + 2*per)},
		// What nobody comes to counts, too.
		{alone("ret", "a: jmp a", "b: jmp b"), 3 * (1 + 2*per)},
		// JC may go anywhere, by the text: all up to it are heads.
		{alone("cpc r1 3", "jc r1", "trap 7", "ret"), 4 * (1 + 2*per)},
		// A sum over gates, each with its compartment's code; of a compartment without a gate nothing.
		{rows(two + "gate a 0 x ->"), 3 * (1 + per)},
		{rows(two + "gate a 1 v ->"), 2 * (1 + 2*per)},
		{rows(two + "gate a 0 x ->;gate b 0 y ->;gate c 1 u ->"), 2*3*(1+per) + 2*(1+2*per)},
	} {
		if got := checker.Most(parse(t, c.text)); got != c.want {
			t.Errorf("11.4: Most is %d, want %d, of\n%s", got, c.want, c.text)
		}
	}
	// As much as there can be.
	m := parse(t, alone("a: jmp a"))
	for len(m.Comps[0].Code) < api.MaxCode {
		m.Comps[0].Code = append(m.Comps[0].Code, api.Inst{Op: api.JMP, Imm: len(m.Comps[0].Code)})
	}
	for len(m.Gates) < api.MaxGates {
		m.Gates = append(m.Gates, m.Gates[0])
	}
	if got, want := checker.Most(m), 16*400*(1+400*356); got != want {
		t.Errorf("11.4: Most is %d, want %d", got, want)
	}
}
