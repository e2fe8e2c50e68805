package flow_test

import (
	"runtime/debug"
	"slices"
	"testing"

	"paddock/api"
	"paddock/flow"
)

const long = 1 << 19

// made is long code, of what is told of each instruction.
func made(size int, of func(pc int) api.Inst) []api.Inst {
	c := make([]api.Inst, size)
	for pc := range c {
		c[pc] = of(pc)
	}
	return c
}

func branch(to int) api.Inst { return api.Inst{Op: api.BNE, Imm: to} }

// zigzag is where to go from pc, so that all is come to from the front and from the back by turns.
func zigzag(pc int) int {
	if pc < long/2 {
		return long - 1 - pc
	}
	return long - pc
}

func count(l []bool) int {
	n := 0
	for _, holds := range l {
		if holds {
			n++
		}
	}
	return n
}

// TestLongCode: however the code jumps, no call needs a deep stack, nor more than some looks at each instruction.
func TestLongCode(t *testing.T) {
	defer debug.SetMaxStack(debug.SetMaxStack(1 << 22))
	for name, c := range map[string][]api.Inst{
		"straight on":          make([]api.Inst, long),
		"two further on":       made(long, func(pc int) api.Inst { return branch(pc + 2) }),
		"one back":             made(long, func(pc int) api.Inst { return branch(pc - 1) }),
		"to the last":          made(long, func(pc int) api.Inst { return branch(long - 1) }),
		"back and forth":       made(long, func(pc int) api.Inst { return branch(zigzag(pc)) }),
		"jumps back and forth": made(long, func(pc int) api.Inst { return api.Inst{Op: api.JMP, Imm: zigzag(pc)} }),
		"to all":               made(long, func(pc int) api.Inst { return api.Inst{Op: api.JC} }),
	} {
		if n := count(flow.Reached(c, 0)); n != long {
			t.Errorf("8.2: %s: %d are come to, want all", name, n)
		}
		if len(flow.Heads(c)) != long {
			t.Errorf("8.3: %s: heads of %d", name, len(flow.Heads(c)))
		}
		if !flow.Dominates(c, 0, long-1, 0) || flow.Dominates(c, long-1, 0, 0) {
			t.Errorf("8.5: %s: the first does not dominate the last, or the last the first", name)
		}
	}
}

// TestFromTheBack: each is come to from the one behind it alone.
func TestFromTheBack(t *testing.T) {
	defer debug.SetMaxStack(debug.SetMaxStack(1 << 22))
	c := made(long, func(pc int) api.Inst { return branch(pc - 1) })
	if n := count(flow.Reached(c, long-1)); n != long {
		t.Errorf("8.2: %d are come to, want all", n)
	}
	if !flow.Dominates(c, long/2, 0, long-1) || flow.Dominates(c, 0, long/2, long-1) {
		t.Error("8.5: the one in the middle does not dominate the first, or the first that")
	}
}

func TestRowsOfLongCode(t *testing.T) {
	c := made(long, func(pc int) api.Inst { return api.Inst{Op: api.JMP, Imm: zigzag(pc)} })
	if n := len(flow.Blocks(c)); n != long {
		t.Errorf("8.4: %d rows, want %d", n, long)
	}
	if rows := flow.Blocks(make([]api.Inst, long), long/2); told(rows) != "0-262143: 262144, 262144-524287:" {
		t.Errorf("8.4: the rows are %v", rows)
	}
	if next := flow.Next(made(long, func(pc int) api.Inst { return api.Inst{Op: api.JC} }), 5); len(next) != long || !slices.IsSorted(next) {
		t.Errorf("8.1: Next of JC: %d", len(next))
	}
}

// TestManyEntries: more than there are instructions, most of them twice.
func TestManyEntries(t *testing.T) {
	var entries []int
	for k := range long {
		entries = append(entries, k%1000-300)
	}
	c := made(600, func(pc int) api.Inst { return api.Inst{Op: api.HALT} })
	if n := count(flow.Reached(c, entries...)); n != 600 {
		t.Errorf("8.2: %d are come to, want all", n)
	}
	if flow.Dominates(c, 3, 4, entries...) || !flow.Dominates(c, 4, 4, entries...) {
		t.Error("8.5: an entry is dominated by another one, or not by itself")
	}
}
