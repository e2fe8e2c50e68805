package flow_test

import (
	"slices"
	"testing"

	"paddock/api"
	"paddock/flow"
)

// all is what all calls answer of some code.
type all struct {
	next           [][]int
	reached, heads []bool
	rows           string
	dominates      []bool
}

func askAll(c []api.Inst, entries []int) all {
	l := all{reached: flow.Reached(c, entries...), heads: flow.Heads(c), rows: told(flow.Blocks(c, entries...))}
	for a := range c {
		l.next = append(l.next, flow.Next(c, a))
		for b := range c {
			l.dominates = append(l.dominates, flow.Dominates(c, a, b, entries...))
		}
	}
	return l
}

func (l all) same(o all) bool {
	return slices.EqualFunc(l.next, o.next, slices.Equal[[]int]) && slices.Equal(l.reached, o.reached) && slices.Equal(l.heads, o.heads) && l.rows == o.rows && slices.Equal(l.dominates, o.dominates)
}

// TestWhatIsHandedInStays: the lists, and what stands behind them.
func TestWhatIsHandedInStays(t *testing.T) {
	for seed := range uint64(200) {
		d := rolled(seed)
		room := d.code(90)
		marks := append(d.entries(len(room)), 1, 2, 3)
		wasCode, wasMarks := slices.Clone(room), slices.Clone(marks)
		askAll(room[:len(room)/2], marks[:len(marks)-2])
		if !slices.Equal(room, wasCode) || !slices.Equal(marks, wasMarks) {
			t.Fatalf("what was handed in was %v, %d, is %v, %d", wasCode, wasMarks, room, marks)
		}
	}
}

// TestNothingIsKept: what was handed in is written over by its owner, and what came out, with its spare room; other code is asked for; then the first again.
func TestNothingIsKept(t *testing.T) {
	for seed := range uint64(60) {
		d := rolled(seed)
		c, entries := d.code(70), d.entries(70)
		sameCode, sameEntries := slices.Clone(c), slices.Clone(entries)
		first := askAll(c, entries)
		kept := askAll(c, entries)
		if !first.same(kept) {
			t.Fatalf("the same code was asked for twice: %v, then %v", first, kept)
		}
		clear(c)
		clear(entries)
		for _, l := range kept.next {
			overwrite(l, -9)
		}
		overwrite(kept.reached, true)
		overwrite(kept.heads, true)
		for _, row := range flow.Blocks(sameCode, sameEntries...) {
			overwrite(row.Next, -9)
		}
		askAll(d.code(70), d.entries(70))
		if now := askAll(sameCode, sameEntries); !first.same(now) {
			t.Fatalf("behind writing over: %v, want %v", now, first)
		}
	}
}

// overwrite lays v in all of a list, with its spare room.
func overwrite[T any](l []T, v T) {
	l = l[:cap(l)]
	for k := range l {
		l[k] = v
	}
}

// TestListsOfOneAnswerShareNothing: the Next of each row is its own, with its spare room.
func TestListsOfOneAnswerShareNothing(t *testing.T) {
	for _, text := range []string{example, twoRounds, "jc / li / jc / beq 0 / jmp 0 / beq 0 / jmp 0 / li"} {
		rows := flow.Blocks(code(text))
		for k := range rows {
			overwrite(rows[k].Next, -k)
		}
		for k := range rows {
			for _, n := range rows[k].Next[:cap(rows[k].Next)] {
				if n != -k {
					t.Errorf("8.4: of %s, the lists of the rows %d and %d share memory", text, k, -n)
				}
			}
		}
	}
}
