package checker_test

import (
	"slices"
	"strings"
	"testing"

	"paddock/api"
	"paddock/asm"
	"paddock/checker"
)

const top = ^uint64(0)

const rw = api.Load | api.Store

// per is what a head adds to Most for each instruction: MaxChanges and 352.
const per = 4 + 352

// nothing is known.
func nothing() api.RType { return api.RType{} }

func integer(lo uint64, hi uint64) api.RType {
	return api.RType{Kind: api.AnInt, N: api.Span{Lo: lo, Hi: hi}}
}

func one(n uint64) api.RType { return integer(n, n) }

func anyInteger() api.RType { return integer(0, top) }

// pointer is r8 of alone, that points from lo to hi.
func pointer(lo uint64, hi uint64) api.RType {
	return api.RType{Kind: api.ACap, End: api.Span{Lo: 32, Hi: 32}, Point: api.Span{Lo: lo, Hi: hi}, Must: rw, May: rw}
}

// parse reads a program.
func parse(t testing.TB, text string) api.Image {
	t.Helper()
	m, e, line := asm.Parse(text)
	if e != api.OK {
		t.Fatalf("Parse: %d, line %d of\n%s", e, line, text)
	}
	return m
}

// rows is lines of a text; in one there may be several, with a semicolon between.
func rows(code ...string) string {
	return strings.ReplaceAll(strings.Join(code, "\n"), ";", "\n") + "\n"
}

// alone is a program of one compartment with the root r8, for a region of 32 bytes, and one gate without arguments, at its first instruction.
func alone(code ...string) string {
	return "depth 2\nregion 0 32 bytes\ncomp\nroot r8 0 32 0 rw 0\n" + rows(code...) + "gate g 0 0 ->\n"
}

// regs is what is known of some registers.
type regs map[int]api.RType

// in is what is known in alone where an instruction can be come to: r8 is the root, all others are 0, but for some.
func in(r regs) api.State {
	s := api.State{Live: true}
	for k := range s.Regs {
		s.Regs[k] = one(0)
	}
	s.Regs[8] = pointer(0, 0)
	for k, x := range r {
		s.Regs[k] = x
	}
	return s
}

// never is what is known of an instruction that can't be come to.
func never() api.State { return api.State{} }

// found is what Check tells, but for the table.
type found struct {
	reason    api.Reason
	gate, pc  int
	steps     int
	isSettled bool
	isInMost  bool
}

func taken(steps int) found { return found{steps: steps, isSettled: true, isInMost: true} }

func refused(why api.Reason, gate, pc, steps int) found {
	return found{why, gate, pc, steps, true, true}
}

// look checks a program, and tells what was found.
func look(m api.Image) (found, api.Table) {
	r := checker.Check(m)
	return found{r.Reason, r.Gate, r.Pc, r.Steps, checker.Settled(m, r.Table), r.Steps <= checker.Most(m)}, r.Table
}

func checkFound(t *testing.T, promise string, text string, want found) api.Table {
	t.Helper()
	got, table := look(parse(t, text))
	if got != want {
		t.Errorf("%s: %+v, want %+v, of\n%s", promise, got, want, text)
	}
	return table
}

// checkRow holds a gate's row of a table against what it must be.
func checkRow(t *testing.T, promise string, text string, got []api.State, want []api.State) {
	t.Helper()
	if len(got) != len(want) {
		t.Fatalf("%s: %d states, want %d, of\n%s", promise, len(got), len(want), text)
	}
	for pc := range got {
		checkState(t, promise, text, pc, got[pc], want[pc])
	}
}

func checkState(t *testing.T, promise string, text string, pc int, got api.State, want api.State) {
	t.Helper()
	if got.Live != want.Live {
		t.Errorf("%s: ahead of %d: Live is %t, of\n%s", promise, pc, got.Live, text)
	}
	for k := range got.Regs {
		if got.Regs[k] != want.Regs[k] {
			t.Errorf("%s: ahead of %d: r%d is %+v, want %+v, of\n%s", promise, pc, k, got.Regs[k], want.Regs[k], text)
		}
	}
}

// sameTable holds a table against another one.
func sameTable(a api.Table, b api.Table) bool {
	return slices.EqualFunc(a, b, func(x, y []api.State) bool { return slices.Equal(x, y) })
}

func sameReport(a api.Report, b api.Report) bool {
	return a.Reason == b.Reason && a.Gate == b.Gate && a.Pc == b.Pc && a.Steps == b.Steps && sameTable(a.Table, b.Table)
}
