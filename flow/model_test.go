package flow_test

import (
	"maps"
	"slices"
	"testing"

	"paddock/api"
	"paddock/flow"
)

// The model says the chapter's words over again, without a thought of speed.

type numbers map[int]bool

// behind is those that may come behind each.
func behind(c []api.Inst) []numbers {
	all := make([]numbers, len(c))
	for pc, i := range c {
		l := numbers{}
		switch i.Op {
		case api.JMP:
			l[i.Imm] = true
		case api.BEQ, api.BNE, api.BLT, api.BGE:
			l[i.Imm], l[pc+1] = true, true
		case api.HALT, api.TRAP, api.RET:
		case api.JC:
			for k := range c {
				l[k] = true
			}
		default:
			l[pc+1] = true
		}
		maps.DeleteFunc(l, func(k int, _ bool) bool { return k < 0 || k >= len(c) })
		all[pc] = l
	}
	return all
}

func modelReached(next []numbers, entries []int) numbers {
	in := numbers{}
	for _, e := range entries {
		if e >= 0 && e < len(next) {
			in[e] = true
		}
	}
	for before := -1; before < len(in); {
		before = len(in)
		for pc := range next {
			if in[pc] {
				maps.Copy(in, next[pc])
			}
		}
	}
	return in
}

func modelHeads(next []numbers) numbers {
	heads := numbers{}
	for pc := range next {
		for k := range next[pc] {
			if k <= pc {
				heads[k] = true
			}
		}
	}
	return heads
}

func modelBlocks(c []api.Inst, next []numbers, entries []int) []api.Block {
	cuts := []api.Op{api.JMP, api.BEQ, api.BNE, api.BLT, api.BGE, api.JC, api.HALT, api.TRAP, api.RET}
	begins := func(pc int) bool {
		if pc == 0 || slices.Contains(entries, pc) || slices.Contains(cuts, c[pc-1].Op) {
			return true
		}
		for k := range next {
			if k != pc-1 && next[k][pc] {
				return true
			}
		}
		return false
	}
	var rows []api.Block
	for pc := 0; pc < len(c); {
		last := pc
		for last+1 < len(c) && !begins(last+1) {
			last++
		}
		rows = append(rows, api.Block{First: pc, Last: last, Next: slices.Sorted(maps.Keys(next[last]))})
		pc = last + 1
	}
	return rows
}

// modelDominators are, of each that can be come to, those that dominate it: the greatest sets in which each one has but itself, and what all have from which it is come to.
func modelDominators(next []numbers, entries []int) []numbers {
	reached := modelReached(next, entries)
	by := make([]numbers, len(next))
	for b := range reached {
		by[b] = maps.Clone(reached)
		if slices.Contains(entries, b) {
			by[b] = numbers{b: true}
		}
	}
	for changed := true; changed; {
		changed = false
		for p := range reached {
			for b := range next[p] {
				size := len(by[b])
				maps.DeleteFunc(by[b], func(a int, _ bool) bool { return a != b && !by[p][a] })
				changed = changed || len(by[b]) < size
			}
		}
	}
	return by
}

func alike(got []bool, size int, want numbers) bool {
	return len(got) == size && slices.Equal(places(got), slices.Sorted(maps.Keys(want)))
}

func TestAgainstTheModel(t *testing.T) {
	for seed := range uint64(1500) {
		d := rolled(seed)
		c := d.code([]int{3, 12, 70, 200}[seed%4])
		entries := d.entries(len(c))
		next := behind(c)
		for pc := range c {
			if got, want := flow.Next(c, pc), slices.Sorted(maps.Keys(next[pc])); !slices.Equal(got, want) {
				t.Fatalf("8.1: Next(%v, %d) = %d, want %d", c, pc, got, want)
			}
		}
		if got, want := flow.Reached(c, entries...), modelReached(next, entries); !alike(got, len(c), want) {
			t.Fatalf("8.2: Reached(%v, %d) = %d, want %v", c, entries, places(got), want)
		}
		if got, want := flow.Heads(c), modelHeads(next); !alike(got, len(c), want) {
			t.Fatalf("8.3: Heads(%v) = %d, want %v", c, places(got), want)
		}
		if got, want := told(flow.Blocks(c, entries...)), told(modelBlocks(c, next, entries)); got != want {
			t.Fatalf("8.4: Blocks(%v, %d) = %s, want %s", c, entries, got, want)
		}
		checkDominators(t, d, c, entries, modelDominators(next, entries))
	}
}

// checkDominators asks for all pairs of short code, and for some of a longer one.
func checkDominators(t *testing.T, d dice, c []api.Inst, entries []int, by []numbers) {
	t.Helper()
	for a := range c {
		for b := range c {
			if len(c) > 12 && d.IntN(len(c)) > 8 {
				continue
			}
			want := a == b || by[b] == nil || by[b][a]
			if got := flow.Dominates(c, a, b, entries...); got != want {
				t.Fatalf("8.5: Dominates(%v, %d, %d, %d) = %t", c, a, b, entries, got)
			}
		}
	}
}
