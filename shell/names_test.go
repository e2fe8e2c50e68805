package shell_test

import (
	"fmt"
	"strings"
	"testing"
)

// three has three gates, of one type; the first one tells which one of the others it comes to.
const three = "depth 2\ncomp\nL0:\n  call G1\n  call G2\n  ret\nL3:\n  out r0\n  ret\ngate G0 0 L0 ->\ngate G1 0 L3 ->\ngate G2 0 L3 ->\n"

// tells is a program of one gate that puts out a number.
func tells(n int) string {
	return fmt.Sprintf("depth 1; comp; li r1 %d; out r1; ret; gate main 0 0 ->", n)
}

func TestNameAndNeed(t *testing.T) {
	lays := program("u", asking) + program("v", twice)
	told := []string{"program u ok", "program v ok"}
	ask := func(what string, script string, want ...string) {
		t.Helper()
		checkTells(t, "24.5: "+what, lays+rows(script), append(append([]string{}, told...), want...)...)
	}
	ask("in either order", "name v 0 twice; need u 1 twice; link w = u v; run w 0 : fuel 9", "name v ok", "need u ok", "link w ok", "run w 0 halted 40 0 gate 0 at 2", "  out")
	ask("in either order", "need u 1 twice; name v 0 twice; link w = v u; run w 1 : fuel 9", "need u ok", "name v ok", "link w ok", "run w 1 halted 40 0 gate 1 at 2", "  out")
	ask("without a name", "need u 1 twice; link w = u v", "need u ok", "link w error 171 at 0")
	ask("without a need", "name v 0 twice; link w = u v; run w 0 : fuel 9", "name v ok", "link w ok", "run w 0 trapped 1 0 gate 1 at 3", "  out")
	ask("a gate that is not there", "name v 1 x; need v 1 x; name u 2 x; need u 2 x; name u 2147483647 x; need u 16 x", "name v error 47", "need v error 47", "name u error 47", "need u error 47", "name u error 47", "need u error 47")
	ask("the last gate", "name u 1 x; need u 01 x", "name u ok", "need u ok")
	ask("the last name counts", "name v 0 other; name v 0 twice; need u 1 other; need u 1 twice; link w = u v", "name v ok", "name v ok", "need u ok", "need u ok", "link w ok")
	ask("the last name counts", "name v 0 twice; name v 0 other; need u 1 twice; link w = u v", "name v ok", "name v ok", "need u ok", "link w error 171 at 0")
	ask("the last need counts", "name v 0 twice; need u 1 twice; need u 1 other; link w = u v", "name v ok", "need u ok", "need u ok", "link w error 171 at 0")
	ask("a name of its own does not count", "name u 0 twice; need u 1 twice; link w = u v; link w = u", "name u ok", "need u ok", "link w error 171 at 0", "link w error 171 at 0")
	ask("a gate with a name and a need", "name u 1 x; need u 1 twice; link w = u v", "name u ok", "need u ok", "link w error 170 at 0")
	ask("a gate with a name and a need", "need u 1 twice; name u 1 x; link w = v u", "need u ok", "name u ok", "link w error 170 at 1")
	ask("one name of two gates", "name u 0 x; name u 1 x; link w = v u", "name u ok", "name u ok", "link w error 170 at 1")
	ask("names that are words", "name v 0 fuel; need u 1 fuel; link end = u v; name end 0 end; run end 0 : fuel 9", "name v ok", "need u ok", "link end ok", "name end ok", "run end 0 halted 40 0 gate 0 at 2", "  out")
	ask("a name of 16 bytes", "name v 0 abcdefghijklmnop; need u 1 abcdefghijklmnop; link w = u v", "name v ok", "need u ok", "link w ok")
	ask("capital letters are others", "name v 0 Twice; need u 1 twice; link w = u v", "name v ok", "need u ok", "link w error 171 at 0")
	ask("they change no program", "name u 0 x; need u 1 y; print u; check u", "name u ok", "need u ok", "program u", asking, "end", "check u taken 4")
}

// TestNeedsInOrder: out of order, and twice, as the linker takes only those that rise.
func TestNeedsInOrder(t *testing.T) {
	lays := program("t", three) + program("x", tells(5)) + program("y", tells(6)) + "name x 0 x\nname y 0 y\n"
	laid := []string{"program t ok", "program x ok", "program y ok", "name x ok", "name y ok"}
	for _, c := range []struct{ needs, out string }{
		{"1 x,2 y", "5 6"}, {"2 y,1 x", "5 6"}, {"2 x,1 y", "6 5"}, {"1 x,2 x", "5 5"}, {"2 x,1 x", "5 5"}, {"1 x,2 y,1 y", "6 6"}, {"2 y,1 x,2 x", "5 5"}, {"2 y,2 x,1 y,1 x,2 y", "5 6"}, {"1 y,1 x,1 y,2 x,1 x,2 y", "5 6"}, {"1 x", "5 0"}, {"2 x", "0 5"}, {"", "0 0"},
	} {
		script, want := lays, append([]string{}, laid...)
		for _, n := range strings.Split(c.needs, ",") {
			if n != "" {
				script += "need t " + n + "\n"
				want = append(want, "need t ok")
			}
		}
		checkTells(t, "24.5: the needs "+c.needs, script+"link w = t x y\nrun w 0 : fuel 99", append(want, "link w ok", "run w 0 halted 0 0 gate 0 at 2", "  out "+c.out)...)
	}
	// All sixteen gates, from the last one on.
	text := "depth 1; comp; trap 1"
	script, want := "", []string{"program p ok", "program q ok"}
	for g := range 16 {
		text += fmt.Sprintf("; gate g%d 0 0 ->", g)
		script += fmt.Sprintf("need p %d w%d\nname q %d w%d\n", 15-g, 15-g, g, g)
		want = append(want, "need p ok", "name q ok")
	}
	checkTells(t, "24.5: sixteen needs", program("p", text)+program("q", text)+script+"link w = p q\nlink w = q p\nlink w = p\nprint w",
		append(want, "link w ok", "link w ok", "link w error 171 at 0", "program w", "depth 1; comp; L0:;   trap 1; comp;   trap 1", gates(16, 0), "end")...)
}

// gates are lines of Print of gates of a compartment.
func gates(n int, comp int) string {
	l := ""
	for g := range n {
		l += fmt.Sprintf("gate G%d %d L0 ->\n", g, comp)
	}
	return l
}

// TestLink: of one, of many, of one twice; what comes of it has names, and no needs.
func TestLink(t *testing.T) {
	lays := program("u", asking) + program("v", twice) + "need u 1 twice\nname v 0 twice\nname u 0 main\n"
	told := []string{"program u ok", "program v ok", "need u ok", "name v ok", "name u ok"}
	ask := func(what string, script string, want ...string) {
		t.Helper()
		checkTells(t, "24.5: "+what, lays+rows(script), append(append([]string{}, told...), want...)...)
	}
	linked := "depth 1\ncomp\nL0:\n  li r1 20\n  call G1\n  ret\n  trap 1\ncomp\nL0:\n  add r1 r1 r1\n  ret\ngate G0 0 L0 -> int\ngate G1 1 L0 int -> int\n"
	ask("two", "link w = u v; print w", "link w ok", "program w", linked, "end")
	ask("linked once more", "link w = u v; link w = w; print w", "link w ok", "link w ok", "program w", linked, "end")
	ask("under the name of one of them", "link u = u v; print u; print v", "link u ok", "program u", linked, "end", "program v", twice, "end")
	ask("under the name of the other one", "link v = u v; print v; print u", "link v ok", "program v", linked, "end", "program u", asking, "end")
	ask("alone", "link w = v; print w", "link w ok", "program w", twice, "end")
	ask("itself", "link v = v; link v = v; print v; link w = u v", "link v ok", "link v ok", "program v", twice, "end", "link w ok")
	ask("names stay", "link w = v; link x = u w; link y = w w", "link w ok", "link x ok", "link y error 171 at 1")
	ask("names stay, those of all", "link w = u v; link x = u w; link x = w v", "link w ok", "link x error 171 at 1", "link x error 171 at 1")
	ask("no needs are left", "link w = u v; link x = w; name w 0 other; name w 1 another; link x = w", "link w ok", "link x ok", "name w ok", "name w ok", "link x ok")
	ask("names of what is linked are its own", "link w = u v; name w 1 other; link x = u v; link x = u w", "link w ok", "name w ok", "link x ok", "link x error 171 at 1")
	ask("names of what is linked are its own", "link w = v; name w 0 other; link x = u v w; link x = u w", "link w ok", "name w ok", "link x ok", "link x error 171 at 0")
	ask("a name behind a link", "link w = v; name v 0 other; link x = u w; link x = u v", "link w ok", "name v ok", "link x ok", "link x error 171 at 0")
	ask("a need in what is linked", "link w = u v; need w 1 twice; name w 0 m; link x = w v; link x = w", "link w ok", "need w ok", "name w ok", "link x error 170 at 0", "link x error 170 at 0")
}

// TestWrongLinks: each error of chapter 17, with its place.
func TestWrongLinks(t *testing.T) {
	at := func(base int) string {
		return fmt.Sprintf("depth 1; region %d 16 bytes; comp; ret; gate g 0 0 ->", base)
	}
	comps := "depth 1; comp; ret; comp; ret; comp; ret; gate g 0 0 ->"
	regions := "depth 1"
	for k := range 8 {
		regions += fmt.Sprintf("; region %d 16 bytes", 16*k+1024)
	}
	regions += "; comp; ret; gate g 0 0 ->"
	many := "depth 1; comp; ret"
	for k := range 9 {
		many += fmt.Sprintf("; gate g%d 0 0 ->", k)
	}
	for _, c := range []struct {
		lays, line string
		e, at      int
	}{
		{program("a", at(0)), "link w = a a", 43, 1}, {program("a", at(0)) + program("b", at(16)), "link w = a b a", 43, 2}, {program("a", at(0)) + program("b", at(16)), "link w = a b b a", 43, 2}, {program("a", at(32)) + program("b", "depth 1; region 0 48 bytes; comp; ret; gate g 0 0 ->"), "link w = a b", 43, 1},
		{program("a", twice) + "name a 0 x\n", "link w = a a", 171, 1}, {program("a", twice) + program("b", adder) + "name a 0 x\nname b 0 x\n", "link w = a b", 171, 1}, {program("a", twice) + program("b", adder) + "name a 0 x\nname b 0 x\n", "link w = b a", 171, 1},
		{program("a", twice) + "need a 0 x\n", "link w = a", 171, 0}, {program("a", twice) + program("b", adder) + "need a 0 x\n", "link w = b b a", 171, 2},
		{program("a", twice) + program("b", adder) + "need a 0 x\nname b 0 x\n", "link w = b a", 172, 1}, {program("a", twice) + program("b", adder) + "need a 0 x\nname b 0 x\n", "link w = a b", 172, 0},
		{program("a", three) + "name a 0 x\nname a 1 x\n", "link w = a", 170, 0}, {program("a", three) + program("b", adder) + "name a 0 x\nneed a 0 y\n", "link w = b a", 170, 1},
		{program("a", comps), "link w = a a", 42, 1}, {program("a", comps) + program("b", adder), "link w = a b b", 42, 2}, {program("a", adder), "link w = a a a a a", 42, 4},
		{program("a", regions) + program("b", at(0)), "link w = b a", 42, 1}, {program("a", many) + program("b", adder), "link w = a a", 42, 1}, {program("a", adder) + program("b", three), "link w = a a b b b", 42, 4},
	} {
		checkBehind(t, "24.5: "+c.line, c.lays, c.line+"\nprint w", fmt.Sprintf("link w error %d at %d", c.e, c.at), "error 53")
	}
	// As many as there may be.
	checkTells(t, "24.5", program("a", adder)+"link w = a a a a\ncost w 3", "program a ok", "link w ok", "cost w 3 3 0 1")
	long := "link w =" + times(" a", 5000)
	checkTells(t, "24.5: very many", program("a", adder)+long, "program a ok", "link w error 42 at 4")
}

func TestTrim(t *testing.T) {
	folds := "depth 1; comp; li r1 5; addi r2 r1 1; glt r2 9 9; bne r2 r0 5; trap 1; seq r3 r1 r1; out r3; halt r2; gate main 0 0 ->"
	shorter := "depth 1\ncomp\nL0:\n  li r1 5\n  li r2 6\n  jmp L4\n  trap 0\nL4:\n  li r3 1\n  out r3\n  halt r2\ngate G0 0 L0 ->\n"
	checkTells(t, "24.5", program("a", folds)+"trim b = a\nprint b\nrun a 0 : fuel 99\nrun b 0 : fuel 99\ncheck b",
		"program a ok", "trim b ok", "program b", shorter, "end", "run a 0 halted 6 0 gate 0 at 7", "  out 1", "run b 0 halted 6 0 gate 0 at 6", "  out 1", "check b taken 6")
	checkTells(t, "24.5: itself", program("a", folds)+"trim a = a\nprint a\ntrim a = a\nprint a", "program a ok", "trim a ok", "program a", shorter, "end", "trim a ok", "program a", shorter, "end")
	for _, text := range []string{faulty, "depth 1; comp; li r1 1; gate main 0 0 ->", "depth 1; comp; ret; gate main 0 0 -> cap 0 16 0 0 r 0"} {
		checkTells(t, "24.5: what is not taken", program("a", text)+"trim b = a\nprint b\ntrim a = a", "program a ok", "trim b error 160", "error 53", "trim a error 160")
	}
}

// TestTrimKeepsNames: names, and needs.
func TestTrimKeepsNames(t *testing.T) {
	lays := program("u", asking) + program("v", twice) + "need u 1 twice\nname v 0 twice\n"
	told := []string{"program u ok", "program v ok", "need u ok", "name v ok"}
	ask := func(what string, script string, want ...string) {
		t.Helper()
		checkTells(t, "24.5: "+what, lays+rows(script), append(append([]string{}, told...), want...)...)
	}
	ask("names and needs", "trim u = u; trim v = v; link w = u v; run w 0 : fuel 9", "trim u ok", "trim v ok", "link w ok", "run w 0 halted 40 0 gate 0 at 2", "  out")
	ask("names and needs", "trim x = u; trim y = v; link w = x y; link w = x v; link w = u y; link w = x; link w = y y", "trim x ok", "trim y ok", "link w ok", "link w ok", "link w ok", "link w error 171 at 0", "link w error 171 at 1")
	ask("those are its own", "trim y = v; name y 0 other; link w = u v; link w = u y", "trim y ok", "name y ok", "link w ok", "link w error 171 at 0")
	ask("those are its own", "trim y = v; name v 0 other; link w = u y; link w = u v", "trim y ok", "name v ok", "link w ok", "link w error 171 at 0")
	ask("needs, too", "trim x = u; need x 1 other; link w = u v; link w = x v", "trim x ok", "need x ok", "link w ok", "link w error 171 at 0")
	ask("needs, too", "trim x = u; need u 1 other; link w = x v; link w = u v", "trim x ok", "need u ok", "link w ok", "link w error 171 at 0")
	ask("needs, too", "trim x = u; need x 0 twice; link w = u v; link w = x v", "trim x ok", "need x ok", "link w ok", "link w error 172 at 0")
	ask("not those of what stood there", "trim v = u; link w = v; link w = u v", "trim v ok", "link w error 171 at 0", "link w error 171 at 0")
}

// TestLaidAnew: a program that is laid has neither names nor needs.
func TestLaidAnew(t *testing.T) {
	bytes := data(bytesOf(t, twice))
	for _, lays := range []string{program("v", twice), "load v " + bytes + "\n", source("v", "comp c { fn twice(x) { return x + x } }")} {
		word, _, _ := strings.Cut(lays, " ")
		script := program("u", asking) + lays + "name v 0 twice\nneed u 1 twice\nlink w = u v\n" + lays + "link w = u v\nname v 0 twice\nlink w = u v\n"
		checkTells(t, "24.3: names", script, "program u ok", word+" v ok", "name v ok", "need u ok", "link w ok", word+" v ok", "link w error 171 at 0", "name v ok", "link w ok")
		script = lays + "need v 0 x\nlink w = v\n" + lays + "link w = v\n"
		checkTells(t, "24.3: needs", script, word+" v ok", "need v ok", "link w error 171 at 0", word+" v ok", "link w ok")
	}
	// With an error names and needs stay.
	script := program("u", asking) + program("v", twice) + "name v 0 twice\nneed u 1 twice\nprogram v\nx\nend\nload u #\nsource v\nend\nlink v = u\ntrim v = f\nlink w = u v\n"
	checkTells(t, "24.3: names and needs", script, "program u ok", "program v ok", "name v ok", "need u ok", "program v error 55 line 1", "load u error 40 at 0", "source v error 150 line 1", "link v error 171 at 0", "error 53", "link w ok")
}
