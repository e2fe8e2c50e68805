package bound_test

import (
	"slices"
	"strconv"
	"strings"
	"testing"

	"paddock/api"
	"paddock/asm"
	"paddock/bound"
	"paddock/checker"
	"paddock/image"
)

// parse reads a program, in whose text a semicolon stands for the end of a line, and nop for an instruction that does nothing.
func parse(t testing.TB, text string) api.Image {
	t.Helper()
	text = strings.NewReplacer(";", "\n", "nop", "mov r1 r1").Replace(text)
	m, e, line := asm.Parse(text)
	if e != api.OK {
		t.Fatalf("Parse: %d, line %d of\n%s", e, line, text)
	}
	return m
}

// program is one whose compartments have these codes, with a gate at 0 of each.
func program(t testing.TB, codes ...string) api.Image {
	t.Helper()
	var gates []string
	for k := range codes {
		gates = append(gates, strconv.Itoa(k)+" 0")
	}
	return gated(t, codes, gates...)
}

// gated is one whose compartments have these codes, and whose gates are told as `compartment entry`; neither has arguments or results.
func gated(t testing.TB, codes []string, gates ...string) api.Image {
	t.Helper()
	text := "depth 1"
	for _, c := range codes {
		text += ";comp;" + c
	}
	for k, g := range gates {
		text += ";gate g" + strconv.Itoa(k) + " " + g + " ->"
	}
	return parse(t, text)
}

func cost(steps, calls, inputs uint64) api.Cost {
	return api.Cost{Known: true, Steps: steps, Calls: calls, Inputs: inputs}
}

// unknown is what Gate tells where nothing is known, and endless what checkDeep looks for where there is no bound.
var unknown = api.Cost{}

const endless = -1

func checkGate(t testing.TB, what string, m api.Image, gate int, want api.Cost) {
	t.Helper()
	if got := bound.Gate(m, gate); got != want {
		t.Errorf("18.1: %s: Gate %d: %+v, want %+v", what, gate, got, want)
	}
}

func checkDeep(t testing.TB, what string, m api.Image, gate int, want int) {
	t.Helper()
	if n, known := bound.Deep(m, gate); known != (want != endless) || n != max(want, 0) {
		t.Errorf("18.2: %s: Deep of %d: %d, %v, want %d", what, gate, n, known, want)
	}
}

// check looks at both; where Gate knows, Deep must tell its Calls.
func check(t testing.TB, what string, m api.Image, gate int, want api.Cost, deep int) {
	t.Helper()
	if want.Known && int(want.Calls) != deep {
		t.Fatalf("%s: %+v and %d do not go together", what, want, deep)
	}
	checkGate(t, what, m, gate, want)
	checkDeep(t, what, m, gate, deep)
}

func isTaken(m api.Image) bool { return checker.Check(m).Reason == api.Fine }

func isEntry(g api.Gate) bool {
	return !slices.ContainsFunc(g.Args, func(t api.Type) bool { return t.Cap })
}

// withDepth is the same program with another depth.
func withDepth(m api.Image, depth int) api.Image {
	m = image.Copy(m)
	m.Depth = depth
	return m
}

// shown is a program as a text, for people.
func shown(m api.Image) string {
	text, _ := asm.Print(m)
	return text
}
