package trim_test

import (
	"reflect"
	"slices"
	"strings"
	"testing"

	"paddock/api"
	"paddock/asm"
	"paddock/checker"
	"paddock/image"
	"paddock/trim"
)

const top = ^uint64(0)

const rw = api.Load | api.Store

// parse reads a program, in whose text a semicolon stands for the end of a line.
func parse(t testing.TB, text string) api.Image {
	t.Helper()
	text = strings.ReplaceAll(text, ";", "\n")
	m, e, line := asm.Parse(text)
	if e != api.OK {
		t.Fatalf("Parse: %d, line %d of\n%s", e, line, text)
	}
	return m
}

// held is what compartments of these tests have: roots for bytes (r8, and r12, which points to their end), for places of capabilities (r9), for sealing (r10), and a sealed one (r11).
const held = "root r8 0 64 16 rw 0;root r9 64 96 64 cd 0;root r10 1 16 5 su 0;root r11 0 64 7 r 5;root r12 0 64 64 rw 0;"

const regions = "region 0 64 bytes #0102;region 64 32 slots;slot cap 0 64 5 5 rw 0 at 5;slot cap 0 64 0 0 r 5 at 0;"

// alone is a program of one compartment, with a gate at its first instruction, whose argument r1 is any integer.
func alone(code string) string {
	return "depth 2;" + regions + "comp;" + held + code + ";gate g 0 0 int ->"
}

// double is one whose second gate begins at the label b. Both have r1 as any integer.
func double(code string) string {
	return alone(code) + ";gate h 0 b int ->"
}

// bare is a compartment without roots, with a gate at an instruction.
func bare(entry string) func(string) string {
	return func(code string) string { return "depth 1;comp;" + code + ";gate g 0 " + entry + " ->" }
}

// row is code of which a program is made, and what becomes of it.
type row struct{ what, code, want string }

// checkFolds folds rows of code in a program that is told by its code.
func checkFolds(t *testing.T, whole func(code string) string, rows []row) {
	t.Helper()
	for _, r := range rows {
		m, want := parse(t, whole(r.code)), parse(t, whole(r.want))
		got, ok := trim.Fold(m)
		if !ok {
			t.Errorf("19.1: %s: %s is not taken: %+v", r.what, r.code, refusal(m))
			continue
		}
		checkSame(t, "19.1: "+r.what, got, want)
	}
}

// checkPacks packs rows of code likewise.
func checkPacks(t *testing.T, whole func(code string) string, rows []row) {
	t.Helper()
	for _, r := range rows {
		checkSame(t, "19.2: "+r.what, trim.Pack(parse(t, whole(r.code))), parse(t, whole(r.want)))
	}
}

func checkSame(t testing.TB, what string, got, want api.Image) {
	t.Helper()
	if !same(got, want) {
		t.Errorf("%s:\n%s\nwant\n%s", what, shown(got), shown(want))
	}
}

// same tells whether two programs are; lists without elements are alike.
func same(a, b api.Image) bool { return reflect.DeepEqual(image.Copy(a), image.Copy(b)) }

func isEmpty(m api.Image) bool { return same(m, api.Image{}) }

// folded is Fold of a program that is taken.
func folded(t testing.TB, m api.Image) api.Image {
	t.Helper()
	f, ok := trim.Fold(m)
	if !ok {
		t.Fatalf("19.1: %+v: not folded:\n%s", refusal(m), shown(m))
	}
	return f
}

func trimmed(t testing.TB, m api.Image) api.Image {
	t.Helper()
	z, ok := trim.Trim(m)
	if !ok {
		t.Fatalf("19.3: %+v: not trimmed:\n%s", refusal(m), shown(m))
	}
	return z
}

func isRight(m api.Image) bool { return image.Right(m) == api.OK }

func isTaken(m api.Image) bool { return isRight(m) && checker.Check(m).Reason == api.Fine }

// refusal is why the checker refuses a program, without the table.
func refusal(m api.Image) api.Report {
	r := checker.Check(m)
	r.Table = nil
	return r
}

func isEntry(g api.Gate) bool {
	return !slices.ContainsFunc(g.Args, func(t api.Type) bool { return t.Cap })
}

// shown is a program as a text, for people.
func shown(m api.Image) string {
	text, _ := asm.Print(m)
	return text
}
