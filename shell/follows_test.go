package shell_test

import (
	"fmt"
	"strings"
	"testing"

	"paddock/api"
	"paddock/lang"
	"paddock/shell"
)

// ordinary are scripts that each do something of their own; what they lay has names of their own, told by a letter.
func ordinary(letter string) []string {
	n := func(name string) string { return letter + name }
	return []string{
		"", "\n", ";\n", "x\n", "check " + n("none") + "\n",
		program(n("a"), adder) + "check " + n("a") + "\nrun " + n("a") + " 0 : 41 fuel 9\n",
		program(n("u"), asking) + program(n("v"), twice) + "need " + n("u") + " 1 t\nname " + n("v") + " 0 t\nlink " + n("w") + " = " + n("u") + " " + n("v") + "\nrun " + n("w") + " 0 : fuel 9\nprint " + n("w") + "\n",
		source(n("s"), squares) + "slow " + n("s") + " 0 3 : fuel 999\ntrim " + n("t") + " = " + n("s") + "\nback " + n("t") + " 0 3 : fuel 999 at 7\n",
		"load " + n("l") + " #00\nload " + n("l") + " #504144444b310100010100010020000000000000000000000000\nbytes " + n("l") + "\ncert " + n("l") + "\ngrant " + n("l") + " 0\ncost " + n("l") + " 0\n",
		"program " + n("a") + "\nx\nend\nprogram\nend\nsource " + n("s") + "-\nend\n",
	}
}

// TestScriptBehindScript: what they tell stands behind one another.
func TestScriptBehindScript(t *testing.T) {
	for i, first := range ordinary("f") {
		for j, second := range ordinary("g") {
			checkText(t, fmt.Sprintf("24.11: %d and %d", i, j), first+second, shell.Do(first)+shell.Do(second))
			checkText(t, fmt.Sprintf("24.11: without a last byte 10, %d and %d", i, j), first+strings.TrimSuffix(second, "\n"), shell.Do(first)+shell.Do(second))
		}
	}
	// Where the second one names what the first one lays, it does so.
	for _, second := range []string{"check fa\n", "run fa 0 : 1 fuel 9\n", "print fa\n", "name fa 0 x\n"} {
		first := ordinary("f")[5]
		if got := shell.Do(first + second); got == shell.Do(first)+shell.Do(second) || !strings.HasPrefix(got, shell.Do(first)) {
			t.Errorf("24.3: %s behind what lays fa: %s", second, got)
		}
	}
}

// TestAgain: nothing is left of a call.
func TestAgain(t *testing.T) {
	for i, first := range ordinary("f") {
		told := shell.Do(first)
		for j, second := range ordinary("f") {
			shell.Do(second)
			if got := shell.Do(first); got != told {
				t.Errorf("24: told again behind %d, the script %d tells %s, at first %s", j, i, got, told)
			}
		}
	}
}

// TestAtOnce: calls at one time know nothing of one another.
func TestAtOnce(t *testing.T) {
	scripts := ordinary("f")
	told := make([]string, len(scripts))
	for k, s := range scripts {
		told[k] = shell.Do(s)
	}
	done := make(chan string)
	for n := range 40 {
		go func() {
			k := n % len(scripts)
			if got := shell.Do(scripts[k]); got != told[k] {
				done <- fmt.Sprintf("24: at one time with others the script %d tells %s", k, got)
				return
			}
			done <- ""
		}()
	}
	for range 40 {
		if wrong := <-done; wrong != "" {
			t.Error(wrong)
		}
	}
}

// TestPrintIsAScript: it lays the same program.
func TestPrintIsAScript(t *testing.T) {
	lays := []string{source("p", squares), source("p", "comp c { fn f(x) { while x { x = x - 1 out in } need x 7 } }"), program("a", memory) + "trim p = a\n", program("a", adder) + program("b", twice) + "link p = b a b\n"}
	for _, text := range texts() {
		lays = append(lays, program("p", text))
	}
	shows := "print p\nbytes p\ncheck p\ncost p 0\ngrant p 0\ncert p\n"
	for _, l := range lays {
		told := shell.Do(l)
		printed := strings.TrimPrefix(shell.Do(l+"print p\n"), told)
		if len(printed) > api.MaxScript {
			t.Fatalf("%d bytes are printed", len(printed))
		}
		checkText(t, "24.11: print", printed+shows, "program p ok\n"+strings.TrimPrefix(shell.Do(l+shows), told))
	}
	// Without names and needs.
	l := program("u", asking) + program("v", twice) + "need u 1 t\nname v 0 t\n"
	again := shell.Do(l + "print u\nprint v\n")
	again = strings.TrimPrefix(again, shell.Do(l))
	checkText(t, "24.11: print", again+"link w = u v\nlink w = u\nneed u 1 t\nlink w = u v\n", "program u ok\nprogram v ok\nlink w ok\nlink w ok\nneed u ok\nlink w error 171 at 0\n")
}

// TestRunAndSlow: they tell the same of what is taken.
func TestRunAndSlow(t *testing.T) {
	compared := 0
	for _, text := range append(texts(), echo, kept, three) {
		lays := program("p", text)
		if !strings.Contains(shell.Do(lays+"check p"), "taken") {
			continue
		}
		for gate := range 4 {
			for _, args := range []string{"", " 3", " 0", " 1 2", " 18446744073709551615"} {
				for _, inputs := range []string{"", " 5", " 1 2 3", " 0 0 0 0"} {
					for _, fuel := range []int{0, 1, 2, 5, 8, 9, 1000} {
						line := fmt.Sprintf(" p %d%s :%s fuel %d\n", gate, args, inputs, fuel)
						fast, slow := shell.Do(lays+"run"+line), shell.Do(lays+"slow"+line)
						if strings.Replace(slow, "\nslow p", "\nrun p", 1) != fast {
							t.Errorf("24.11: of %s is told\n%s\nand\n%s", line, fast, slow)
						}
						compared++
					}
				}
			}
		}
	}
	if compared < 1000 {
		t.Errorf("%d runs were compared", compared)
	}
}

// TestSourceAndImage: a source is as the program that Compile makes of it.
func TestSourceAndImage(t *testing.T) {
	for _, text := range []string{squares, "comp c { fn f(x) { out x return x + in } }", "bytes b 20; comp one uses b { fn f(x) { b[x] = x if x > 3 { trap 9 } else { need x 1 } let y = g(b) return y } }; comp two { fn g(p: uses b) { p[0] = 1 return p[1] } fn h() { let z = h() return z } }"} {
		m, e, line := lang.Compile(rows(text))
		if e != api.OK {
			t.Fatalf("Compile: %d, line %d", e, line)
		}
		printed := asShown(t, m)
		does := "print a\nbytes a\ncheck a\ncert a\n"
		for gate := range 4 {
			does += fmt.Sprintf("cost a %d\ngrant a %d\nrun a %d 2 : 5 6 fuel 500\nslow a %d : 5 fuel 77\nback a %d 2 : 5 6 fuel 99 at 9\n", gate, gate, gate, gate, gate)
		}
		if got, want := shell.Do(source("a", text)+does), shell.Do(printed+does); strings.TrimPrefix(got, "source a ok\n") != strings.TrimPrefix(want, "program a ok\n") {
			t.Errorf("24.11: of the source\n%s\nis told\n%s\nof what Compile makes of it\n%s", text, got, want)
		}
	}
}
