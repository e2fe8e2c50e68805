package shell_test

import (
	"fmt"
	"strings"
	"testing"

	"paddock/api"
	"paddock/asm"
	"paddock/image"
	"paddock/shell"
)

// rows are lines, each with its end. A semicolon and a blank stand for the end of one.
func rows(l ...string) string {
	text := ""
	for _, line := range l {
		text += strings.TrimSuffix(strings.ReplaceAll(line, "; ", "\n"), "\n") + "\n"
	}
	return text
}

// program is a script that lays one under a name.
func program(name string, text ...string) string {
	return "program " + name + "\n" + rows(text...) + "end\n"
}

func source(name string, text ...string) string {
	return "source " + name + "\n" + rows(text...) + "end\n"
}

// What several tests run. The texts are as Print writes them.
const (
	adder   = "depth 1\ncomp\nL0:\n  in r1\n  addi r1 r1 1\n  halt r1\ngate G0 0 L0 ->\n"
	twice   = "depth 1\ncomp\nL0:\n  add r1 r1 r1\n  ret\ngate G0 0 L0 int -> int\n"
	asking  = "depth 1\ncomp\nL0:\n  li r1 20\n  call G1\n  ret\nL3:\n  trap 1\ngate G0 0 L0 -> int\ngate G1 0 L3 int -> int\n"
	memory  = "depth 2\nregion 0 32 bytes #0506\nregion 32 16 slots\n  slot cap 0 32 0 0 rw 0 at 0\ncomp\n  root r8 0 32 0 rw 0\n  root r9 32 48 32 cd 0\nL0:\n  lb r1 r8 1\n  sb r1 r8 3\n  lw r2 r8 0\n  sw r2 r8 16\n  lc r3 r9 0\n  sc r3 r9 0\n  out r1\n  out r2\n  ret\ngate G0 0 L0 ->\n"
	faulty  = "depth 1\ncomp\nL0:\n  lb r1 r2 0\n  ret\ngate G0 0 L0 ->\n"
	squares = "words a 8; comp main uses a {; fn fill(n) { let i = 0 while i < n { a[i] = i * i i = i + 1 } let t = sum(a) return t }; }; comp other {; fn sum(p: reads a) { let i = 0 let s = 0 while i < 8 { s = s + p[i] i = i + 1 } return s }; }"
)

// checkTells asks what a script tells. The model has to tell it, too.
func checkTells(t *testing.T, what string, script string, want ...string) {
	t.Helper()
	checkText(t, what, script, rows(want...))
}

func checkText(t *testing.T, what string, script string, want string) {
	t.Helper()
	if got := shell.Do(script); got != want {
		t.Errorf("%s: of the script\n%s\nis told\n%s\nwant\n%s\n%s", what, short(script), short(got), short(want), firstUnlike(got, want))
	}
	if got := model(script); got != want {
		t.Errorf("%s: of the script\n%s\nthe model tells\n%s\nwant\n%s\n%s", what, short(script), short(got), short(want), firstUnlike(got, want))
	}
}

// checkBehind asks what is told behind what a script tells that lays things.
func checkBehind(t *testing.T, what string, lays string, script string, want ...string) {
	t.Helper()
	checkText(t, what, lays+script, shell.Do(lays)+rows(want...))
}

func short(s string) string {
	if len(s) > 3000 {
		return s[:1500] + " .. " + s[len(s)-1500:]
	}
	return s
}

// firstUnlike tells the first line that is another one.
func firstUnlike(a, b string) string {
	l, k := strings.Split(a, "\n"), strings.Split(b, "\n")
	for n := range min(len(l), len(k)) {
		if l[n] != k[n] {
			return fmt.Sprintf("(line %d: %.200q, want %.200q)", n+1, l[n], k[n])
		}
	}
	return fmt.Sprintf("(%d lines, want %d)", len(l), len(k))
}

// parse reads a program, in whose text a semicolon and a blank stand for the end of a line.
func parse(t testing.TB, text string) api.Image {
	t.Helper()
	m, e, line := asm.Parse(rows(text))
	if e != api.OK {
		t.Fatalf("Parse: %d, line %d of\n%s", e, line, text)
	}
	return m
}

// data are bytes as a token.
func data(bytes string) string { return fmt.Sprintf("#%x", bytes) }

// bytesOf are those of a program that is written as a text.
func bytesOf(t testing.TB, text string) string {
	t.Helper()
	b, e := image.Encode(parse(t, text))
	if e != api.OK {
		t.Fatalf("Encode: %d of\n%s", e, text)
	}
	return b
}

// joined are scripts as one.
func joined(l ...string) string { return strings.Join(l, "") }

// times is a row of the same.
func times(s string, n int) string { return strings.Repeat(s, n) }

// checkModel asks for what the model tells.
func checkModel(t *testing.T, what string, script string) {
	t.Helper()
	if got, want := shell.Do(script), model(script); got != want {
		t.Errorf("%s: of the script\n%s\nis told\n%s\nwant\n%s\n%s", what, short(script), short(got), short(want), firstUnlike(got, want))
	}
}

// lineOf is a line of what is told of a script, from 0 on.
func lineOf(script string, n int) string {
	l := strings.Split(shell.Do(script), "\n")
	return l[min(n, len(l)-1)]
}
