package sandbox_test

import (
	"reflect"
	"slices"
	"strings"
	"testing"

	"paddock/api"
	"paddock/asm"
	"paddock/capmachine"
	"paddock/checker"
	"paddock/image"
	"paddock/sandbox"
)

const top = ^uint64(0)

const rw = api.Load | api.Store

// parse reads a program, in whose text a semicolon stands for the end of a line.
func parse(t testing.TB, text string) api.Image {
	t.Helper()
	text = strings.ReplaceAll(text, ";", "\n")
	m, e, line := asm.Parse(text)
	if e != api.OK {
		t.Fatalf("Parse: %d, line %d of\n%s", e, line, text)
	}
	return m
}

// replaced is a text in which something else stands for a part of it.
func replaced(t testing.TB, text, part, with string) string {
	t.Helper()
	if strings.Count(text, part) != 1 {
		t.Fatalf("%q is not just once in %q", part, text)
	}
	return strings.Replace(text, part, with, 1)
}

// encoded is a right program's bytes.
func encoded(t testing.TB, m api.Image) string {
	t.Helper()
	s, e := image.Encode(m)
	if e != api.OK {
		t.Fatalf("Encode: %d", e)
	}
	return s
}

// loaded is a program that is taken, of its text.
func loaded(t testing.TB, text string) *sandbox.Program {
	t.Helper()
	return loadedOf(t, parse(t, text))
}

// loadedOf is one of an image.
func loadedOf(t testing.TB, m api.Image) *sandbox.Program {
	t.Helper()
	p, e, at, r := sandbox.Load(encoded(t, m))
	if p == nil || e != api.OK || at != 0 || r.Reason != api.Fine {
		t.Fatalf("16.1: Load: %v, %d, %d, Reason %d at %d of the gate %d, want a program, OK and 0", p != nil, e, at, r.Reason, r.Pc, r.Gate)
	}
	return p
}

// checkWrong looks whether bytes are told to be no image, with the error and the byte.
func checkWrong(t testing.TB, what string, s string, want api.Errno, place int) {
	t.Helper()
	p, e, at, r := sandbox.Load(s)
	if p != nil || e != want || at != place || !reflect.DeepEqual(r, api.Report{}) {
		t.Errorf("16.1: %s: %v, %d at %d, want no program, %d at %d; the report is %+v", what, p != nil, e, at, want, place, r)
	}
}

// checkRefused looks whether an image is refused, with this report.
func checkRefused(t testing.TB, what string, m api.Image, want api.Report) {
	t.Helper()
	p, e, at, r := sandbox.Load(encoded(t, m))
	if p != nil || e != api.ErrCheck || at != 0 {
		t.Errorf("16.1: %s: %v, %d, %d, want no program, ErrCheck and 0", what, p != nil, e, at)
	}
	checkReport(t, what, r, want)
}

// checkReport holds all of a report against all of another one.
func checkReport(t testing.TB, what string, got, want api.Report) {
	t.Helper()
	if got.Reason != want.Reason || got.Gate != want.Gate || got.Pc != want.Pc || got.Steps != want.Steps {
		t.Errorf("16.1: %s: Reason %d at %d of the gate %d behind %d steps, want %d at %d of the gate %d behind %d", what,
			got.Reason, got.Pc, got.Gate, got.Steps, want.Reason, want.Pc, want.Gate, want.Steps)
	}
	if !sameTable(got.Table, want.Table) {
		t.Errorf("16.1: %s: another table: %+v, want %+v", what, got.Table, want.Table)
	}
}

func sameTable(a, b api.Table) bool {
	return slices.EqualFunc(a, b, func(x, y []api.State) bool { return slices.Equal(x, y) })
}

// checkLoad asks Load as the chapters that it leans on would answer.
func checkLoad(t testing.TB, what string, s string) api.Errno {
	t.Helper()
	m, want, place := image.Decode(s)
	p, e, at, r := sandbox.Load(s)
	report := api.Report{}
	if want == api.OK {
		report = checker.Check(m)
		if report.Reason != api.Fine {
			want = api.ErrCheck
		}
	}
	if e != want || at != place || (p != nil) != (want == api.OK) {
		t.Fatalf("16.1: %s: %v, %d at %d, want %d at %d", what, p != nil, e, at, want, place)
	}
	checkReport(t, what, r, report)
	return e
}

// runner is Run or Slow of a program.
type runner func(gate int, args []uint64, inputs []uint64, fuel int) (api.Result, api.Errno)

// way is one of the two, by its name.
type way struct {
	name string
	run  runner
}

func ways(p *sandbox.Program) []way { return []way{{"Run", p.Run}, {"Slow", p.Slow}} }

// begun are the arguments of a run.
type begun struct {
	gate   int
	args   []uint64
	inputs []uint64
	fuel   int
}

func (w way) asked(b begun) (api.Result, api.Errno) { return w.run(b.gate, b.args, b.inputs, b.fuel) }

// sameResult holds all of two results against each other; a list without elements may be nil or not.
func sameResult(a, b api.Result) bool {
	return a.Outcome == b.Outcome && slices.Equal(a.Out, b.Out) && slices.Equal(a.Touches, b.Touches)
}

// checkRuns asks both for a run, and looks whether both answer what is wanted.
func checkRuns(t testing.TB, what string, p *sandbox.Program, b begun, want api.Result) {
	t.Helper()
	for _, w := range ways(p) {
		if r, e := w.asked(b); e != api.OK || !sameResult(r, want) {
			t.Errorf("16.2: %s: %s of %+v: %d, %+v, want %+v", what, w.name, b, e, r, want)
		}
	}
}

// checkNoRun looks whether both answer an error, and nothing else.
func checkNoRun(t testing.TB, what string, p *sandbox.Program, b begun, want api.Errno) {
	t.Helper()
	for _, w := range ways(p) {
		if r, e := w.asked(b); e != want || !reflect.DeepEqual(r, api.Result{}) {
			t.Errorf("16.2: %s: %s of %+v: %d, %+v, want %d and nothing", what, w.name, b, e, r, want)
		}
	}
}

// stepped is what comes of a run on the machine that looks at every step, step by step: the fuel is counted here.
func stepped(t testing.TB, m api.Image, b begun) api.Result {
	t.Helper()
	x, e := capmachine.New(m, b.gate, b.args, b.inputs)
	if e != api.OK {
		t.Fatalf("7.1: a run may not begin: %d", e)
	}
	s := x.Snap()
	o := api.Outcome{Gate: s.Gate, Pc: s.Pc}
	for n := 0; n < min(b.fuel, api.MaxFuel) && o.End == api.Running; n++ {
		o = x.Step()
	}
	if o.End == api.Running {
		o.End = api.Spent
	}
	return api.Result{Outcome: o, Out: x.Out(), Touches: x.Touches()}
}

func halted(n uint64, pc int) api.Outcome { return api.Outcome{End: api.Halted, Value: n, Pc: pc} }

func spent(pc int) api.Outcome { return api.Outcome{End: api.Spent, Pc: pc} }

func load(addr, size uint64) api.Touch { return api.Touch{Addr: addr, Size: size} }

func store(addr, size uint64) api.Touch { return api.Touch{Store: true, Addr: addr, Size: size} }

func integer(lo, hi uint64) api.RType {
	return api.RType{Kind: api.AnInt, N: api.Span{Lo: lo, Hi: hi}}
}

// grown is a list with three elements behind it, and room tells whether these stand there still.
func grown[T any](l []T, mark T, room *[]func() bool) []T {
	full := append(slices.Clone(l), mark, mark, mark)
	*room = append(*room, func() bool {
		return !slices.ContainsFunc(full[len(l):], func(x T) bool { return !reflect.DeepEqual(x, mark) })
	})
	return full[:len(l)]
}

// spoil writes over all of a list, its spare room too.
func spoil[T any](l []T, with T) {
	for k := range l[:cap(l)] {
		l[:cap(l)][k] = with
	}
}
