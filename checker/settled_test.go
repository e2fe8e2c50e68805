package checker_test

import (
	"slices"
	"testing"

	"paddock/api"
	"paddock/checker"
	"paddock/regtype"
)

// copied is a table in new memory, of which the rows may be changed.
func copied(t api.Table) api.Table {
	var l api.Table
	for _, row := range t {
		l = append(l, slices.Clone(row))
	}
	return l
}

// two is a program of two gates, of which one has a round.
func two() string {
	return gates("in r1;a: addi r1 r1 -1;bne r1 r0 a;b: sb r1 r8 3;ret", "gate g 0 0 ->", "gate h 0 b int ->")
}

// change is something done to a table, and whether it says enough then.
type change struct {
	what    string
	do      func(x api.Table) api.Table
	settled bool
}

func checkChanges(t *testing.T, text string, l []change) {
	t.Helper()
	m := parse(t, text)
	table := checker.Check(m).Table
	if !checker.Settled(m, table) {
		t.Fatalf("11.6: what Check tells is not settled, of\n%s", text)
	}
	for _, c := range l {
		if got := checker.Settled(m, c.do(copied(table))); got != c.settled {
			t.Errorf("11.3: %s: Settled is %t, of\n%s", c.what, got, text)
		}
	}
}

// on changes one state of a table.
func on(gate, pc int, f func(s *api.State)) func(x api.Table) api.Table {
	return func(x api.Table) api.Table {
		f(&x[gate][pc])
		return x
	}
}

// knows lays something in a register of a state.
func knows(reg int, r api.RType) func(s *api.State) {
	return func(s *api.State) { s.Regs[reg] = r }
}

func dead(s *api.State) { s.Live = false }

func gone(s *api.State) { *s = api.State{} }

// TestRowsAndStates: how many there must be.
func TestRowsAndStates(t *testing.T) {
	checkChanges(t, two(), []change{
		{"no table", func(x api.Table) api.Table { return nil }, false},
		{"no rows", func(x api.Table) api.Table { return x[:0] }, false},
		{"a row too few", func(x api.Table) api.Table { return x[:1] }, false},
		{"the first row too few", func(x api.Table) api.Table { return x[1:] }, false},
		{"a row too many", func(x api.Table) api.Table { return append(x, x[0]) }, false},
		{"an empty row too many", func(x api.Table) api.Table { return append(x, nil) }, false},
		{"rows the other way round", func(x api.Table) api.Table { x[0], x[1] = x[1], x[0]; return x }, false},
		{"a state too few", func(x api.Table) api.Table { x[0] = x[0][:4]; return x }, false},
		{"a state too few in the last row", func(x api.Table) api.Table { x[1] = x[1][:4]; return x }, false},
		{"the first state too few", func(x api.Table) api.Table { x[1] = x[1][1:]; return x }, false},
		{"a state too many", func(x api.Table) api.Table { x[0] = append(x[0], x[0][4]); return x }, false},
		{"an empty state too many", func(x api.Table) api.Table { x[1] = append(x[1], api.State{}); return x }, false},
		{"an empty row", func(x api.Table) api.Table { x[1] = nil; return x }, false},
		{"nothing changed", func(x api.Table) api.Table { return x }, true},
		{"room behind", func(x api.Table) api.Table { return append(x, nil)[:2] }, true},
	})
}

// TestEntryStates: of each gate it must be Live, and have all that Entry has.
func TestEntryStates(t *testing.T) {
	checkChanges(t, two(), []change{
		{"no entry", on(0, 0, gone), false},
		{"an entry that is not Live", on(0, 0, dead), false},
		{"the second entry is not Live", on(1, 3, dead), false},
		{"all of a row gone", func(x api.Table) api.Table { x[1] = make([]api.State, 5); return x }, false},
		{"a root is an integer", on(0, 0, knows(8, one(0))), false},
		{"a root points elsewhere", on(0, 0, knows(8, pointer(1, 1))), false},
		{"a root points there, or elsewhere", on(0, 0, knows(8, pointer(0, 1))), false}, // what comes of it is not in the others
		{"a register that nobody reads is 1", on(0, 0, knows(5, one(1))), false},
		{"an argument is known", on(1, 3, knows(1, integer(1, top))), false},
		{"an argument is not known", on(1, 3, knows(1, nothing())), true}, // it is refused, so nothing comes of it
	})
	// Where the entry is the only instruction, less may be known of it.
	checkChanges(t, alone("ret"), []change{
		{"less is known of a root", on(0, 0, knows(8, pointer(0, 9))), true},
		{"nothing is known of a root", on(0, 0, knows(8, nothing())), true},
		{"nothing is known", on(0, 0, func(s *api.State) { s.Regs = [api.Regs]api.RType{} }), true},
		{"what is not rightly built is nothing", on(0, 0, knows(8, api.RType{Kind: 7, Seal: 99})), true},
		{"another register is r8", on(0, 0, knows(9, pointer(0, 0))), false},
	})
}

// TestWhatComes: each state of Next must be under the one that is there, which is Live.
func TestWhatComes(t *testing.T) {
	checkChanges(t, two(), []change{
		{"1 is gone", on(0, 1, gone), false},
		{"1 is not Live", on(0, 1, dead), false},
		{"2 is not Live", on(0, 2, dead), false},
		{"3 is not Live", on(0, 3, dead), false},
		{"4 is not Live", on(0, 4, dead), false},
		{"4 is not Live in the other row", on(1, 4, dead), false},
		{"more is said of 1 than comes from 0", on(0, 1, knows(1, integer(1, top))), false},
		{"more is said of 1 than comes from 2", on(0, 1, knows(1, one(0))), false},
		{"more is said of 2", on(0, 2, knows(1, integer(0, top-1))), false},
		{"more is said of 3", on(0, 3, knows(1, integer(1, top))), false},
		{"more is said of 4", on(0, 4, knows(1, integer(1, top))), false},
		{"something else is said of 4", on(0, 4, knows(6, pointer(0, 0))), false},
		{"more is said of the last one in the other row", on(1, 4, knows(1, one(3))), false},
		{"less is said of 3", on(0, 3, knows(1, integer(0, 5))), false}, // it comes to 4
		{"less is said of 4", on(0, 4, knows(1, nothing())), true},
		{"less is said of 4 in the other row", on(1, 4, knows(7, integer(0, 9))), true},
		{"less is said of 3 and 4", func(x api.Table) api.Table {
			return on(0, 3, knows(7, nothing()))(on(0, 4, knows(7, nothing()))(x))
		}, true},
		{"3 is refused, so nothing comes of it", func(x api.Table) api.Table {
			return on(0, 3, knows(8, nothing()))(on(0, 4, gone)(x))
		}, true},
		{"3 is refused, and 4 stands there", on(0, 3, knows(8, nothing())), true},
	})
}

// TestStatesNobodyComesTo: those that are not Live are not asked; those that are count, though nobody comes there.
func TestStatesNobodyComesTo(t *testing.T) {
	text := alone("ret", "li r1 1", "out r1", "ret")
	behind := in(regs{1: one(1)})
	checkChanges(t, text, []change{
		{"something in states that are not Live", func(x api.Table) api.Table {
			for pc := 1; pc < 4; pc++ {
				x[0][pc] = in(regs{1: one(9)})
				x[0][pc].Live = false
			}
			return x
		}, true},
		{"Live, and nothing there behind it", on(0, 1, func(s *api.State) { *s = behind }), false},
		{"Live, and what comes is there", func(x api.Table) api.Table {
			x[0][1], x[0][2], x[0][3] = in(nil), behind, behind
			return x
		}, true},
		{"Live, and what comes is not all there", func(x api.Table) api.Table {
			x[0][1], x[0][2], x[0][3] = in(nil), behind, in(nil)
			return x
		}, false},
		{"the last one alone", on(0, 3, func(s *api.State) { *s = behind }), true},
		{"a Reason, and nothing there behind it", on(0, 2, func(s *api.State) { *s = in(regs{1: pointer(0, 0)}) }), true},
	})
	// A round that goes on with less and less is settled where nothing is known any more.
	checkChanges(t, alone("li r1 0", "a: addi r1 r1 1", "glt r1 3 0", "jmp a"), []change{
		{"up to 9", on(0, 1, knows(1, integer(0, 9))), false},
		{"all", func(x api.Table) api.Table {
			for pc := range x[0] {
				x[0][pc].Regs[1] = anyInteger()
			}
			return x
		}, true},
		{"one less", on(0, 1, knows(1, integer(0, 1))), false},
	})
}

// TestReasonsAreNotAsked: a table of a program that is refused may be settled, and one may be in which what is known is too little to be taken.
func TestReasonsAreNotAsked(t *testing.T) {
	for why, text := range map[api.Reason]string{
		api.RCap:  alone("li r1 1", "lb r1 r1 0", "ret"),
		api.RFall: alone("li r1 1"),
	} {
		m := parse(t, text)
		r := checker.Check(m)
		if r.Reason != why || !checker.Settled(m, r.Table) {
			t.Errorf("11.3: %d, Settled is %t, of\n%s", r.Reason, checker.Settled(m, r.Table), text)
		}
	}
	m := parse(t, two())
	table := checker.Check(m).Table
	for gate := range table {
		for pc := range table[gate] {
			table[gate][pc] = regtype.JoinState(table[gate][pc], api.State{Live: true})
		}
	}
	if !checker.Settled(m, table) {
		t.Errorf("11.3: a table in which nothing is known is not settled")
	}
}

// TestEachPlaceChanged: in each state each register, said to be what nobody comes with, is missed; and each state that is come to, not Live.
func TestEachPlaceChanged(t *testing.T) {
	for _, text := range []string{two(), alone("li r1 0", "li r2 9", "a: bge r1 r2 b", "cinc r6 r8 r1", "sb r1 r6 0", "addi r1 r1 1", "jmp a", "b: halt r1")} {
		m := parse(t, text)
		table := checker.Check(m).Table
		for gate, row := range table {
			for pc, s := range row {
				if !s.Live {
					continue
				}
				if checker.Settled(m, on(gate, pc, dead)(copied(table))) {
					t.Errorf("11.3: gate %d, %d not Live: settled, of\n%s", gate, pc, text)
				}
				for reg := range s.Regs {
					wrong := but(pointer(7, 7), func(r *api.RType) { r.May = api.Exec | rw })
					if checker.Settled(m, on(gate, pc, knows(reg, wrong))(copied(table))) {
						t.Errorf("11.3: gate %d, %d, r%d changed: settled, of\n%s", gate, pc, reg, text)
					}
				}
			}
		}
	}
}
