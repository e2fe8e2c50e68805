package flow_test

import (
	"slices"
	"testing"

	"paddock/api"
	"paddock/flow"
)

func TestReachedIsClosedAndGrows(t *testing.T) {
	for seed := range uint64(600) {
		d := rolled(seed)
		c := d.code(150)
		few := d.entries(len(c))
		less, more := flow.Reached(c, few...), flow.Reached(c, append(d.entries(len(c)), few...)...)
		for pc := range c {
			if less[pc] && !more[pc] {
				t.Fatalf("8.6: %d of %v is come to from %d, and not from more", pc, c, few)
			}
			for _, k := range flow.Next(c, pc) {
				if less[pc] && !less[k] {
					t.Fatalf("8.6: %d of %v is come to from %d, and not %d behind it", pc, c, few, k)
				}
			}
		}
	}
}

// TestRoundsHaveHeads: without going to heads every walk only goes further on.
func TestRoundsHaveHeads(t *testing.T) {
	for seed := range uint64(600) {
		c := rolled(seed).code(150)
		heads := flow.Heads(c)
		for pc := range c {
			for _, k := range flow.Next(c, pc) {
				if !heads[k] && k <= pc {
					t.Fatalf("8.3: %d of %v goes to %d, which is no head", pc, c, k)
				}
			}
		}
	}
}

func TestRowsAreAllOfTheCode(t *testing.T) {
	for seed := range uint64(600) {
		d := rolled(seed)
		c := d.code(150)
		entries := d.entries(len(c))
		from := make([][]int, len(c))
		for pc := range c {
			for _, k := range flow.Next(c, pc) {
				from[k] = append(from[k], pc)
			}
		}
		at := 0
		for _, row := range flow.Blocks(c, entries...) {
			if row.First != at || row.Last < row.First {
				t.Fatalf("8.6: a row of %v from %d to %d, want from %d on", c, row.First, row.Last, at)
			}
			for ; at < row.Last; at++ {
				if !slices.Equal(flow.Next(c, at), []int{at + 1}) || !slices.Equal(from[at+1], []int{at}) || slices.Contains(entries, at+1) {
					t.Fatalf("8.6: in a row of %v, with the entries %d: %d is not the only one behind %d, or comes behind others", c, entries, at+1, at)
				}
			}
			at++
		}
		if at != len(c) {
			t.Fatalf("8.6: the rows of %v end at %d", c, at)
		}
	}
}

func TestDominatesIsAnOrder(t *testing.T) {
	for seed := range uint64(300) {
		d := rolled(seed)
		c := d.code(24)
		entries := d.entries(len(c))
		some := places(flow.Reached(c, entries...))
		by := make([][]bool, len(c))
		for _, a := range some {
			by[a] = make([]bool, len(c))
			for _, b := range some {
				by[a][b] = flow.Dominates(c, a, b, entries...)
			}
		}
		for _, x := range some {
			for _, y := range some {
				checkOrder(t, c, by, some, x, y)
			}
		}
	}
}

func checkOrder(t *testing.T, c []api.Inst, by [][]bool, some []int, x, y int) {
	t.Helper()
	if !by[x][x] || x != y && by[x][y] && by[y][x] {
		t.Fatalf("8.6: of %v, %d and %d dominate each other, or %d not itself", c, x, y, x)
	}
	for _, z := range some {
		if by[x][y] && by[y][z] && !by[x][z] {
			t.Fatalf("8.6: of %v, %d dominates %d, that %d, and the first not the last", c, x, y, z)
		}
		if by[x][z] && by[y][z] && !by[x][y] && !by[y][x] {
			t.Fatalf("8.6: of %v, %d and %d dominate %d, and neither the other", c, x, y, z)
		}
	}
}
