package lang_test

import (
	"strings"
	"testing"

	"paddock/api"
)

// full has each thing that the grammar has.
const full = `bytes a 4 words b 2
comp c uses a reads b {
fn f ( x , p : uses a , q : reads b ) {
let y = x
let z = g ( x , q )
x = h ( )
x = y + 1 - 2 | 3 ^ 4
a [ x ] = p [ 1 ] * q [ y ] & 5 << 6 >> 7
f ( in , a , b )
if x == 1 { } else { out x != 1 }
if x < 1 { out x <= 1 }
while x > 1 { x = - ( x >= 1 ) }
need ! x 8
trap 9
return y
}
fn g ( y , r : reads b ) { }
}
comp d {
fn h ( ) { h ( ) }
}
`

// TestEachPrefix: a text that ends too early is wrong in its last line, with newlines at its end and without.
func TestEachPrefix(t *testing.T) {
	checkWrong(t, "15.2", full, api.OK, 0)
	row := strings.Fields(full)
	second := len(row) - len(strings.Fields("comp d { fn h ( ) { h ( ) } }"))
	for n := range row {
		text := strings.Join(row[:n], "\n")
		if n == second {
			continue // a program by itself, but that h is nowhere
		}
		checkWrong(t, "15.2: a text that ends too early", text, api.ErrLang, max(n, 1))
		checkWrong(t, "15.2: with newlines at its end", text+"\n\n \n", api.ErrLang, max(n, 1)+3)
		checkWrong(t, "15.2: with a remark at its end", text+" # }\n# }", api.ErrLang, max(n, 1)+1)
	}
	for _, c := range []struct {
		text string
		line int
	}{{"", 1}, {" ", 1}, {"\n", 2}, {"# nothing", 1}, {"# nothing\n#\n", 3}, {"#\n#\n#", 3}, {"\t\t", 1}, {times("\n", 1000), 1001}} {
		checkWrong(t, "15.2: a text without tokens", c.text, api.ErrLang, c.line)
	}
}

// TestEachToken: at each place of a program each token is asked that there is: the first one counts with which no program goes on so.
func TestEachToken(t *testing.T) {
	t.Parallel()
	row := strings.Fields(full)
	others := strings.Fields("{ } ( ) [ ] , : = + - * & | ^ ! < > == != <= >= << >> name 5" + keywords)
	wrong := 0
	for at := range row {
		for _, other := range others {
			text := strings.Join(row[:at], "\n") + "\n" + other + "\n" + strings.Join(row[at+1:], "\n")
			text = strings.TrimPrefix(text, "\n")
			e, line := verdict(text)
			if e == api.ErrLang {
				wrong++
			}
			checkWrong(t, "15.2, 15.3: another token", text, e, line)
		}
	}
	if wrong < 4000 {
		t.Errorf("only %d are wrong by 15.2", wrong)
	}
}

// TestShapes: what the grammar has and has not.
func TestShapes(t *testing.T) {
	body := func(s string) string { return "comp c { fn f(x, y) {\n" + s + "\n} fn g() { } }" }
	for _, s := range []string{
		"", "g() g()", "x = g()", "let z = g() let w = z", "if x { } if y { }", "if x { } else { }", "if x { } else { if y { } else { } }", "while x { while y { } }", "out x out y", "need x 1 need y 2", "return x return y", "trap 1 trap 2", "x = y y = x", "out (x)", "out ((x) + (y))", "out x < y", "out (x < y) < y", "out x + y < y + x", "need x 1 g()", "need (1) 2", "need x - 1 2", "return -x g()",
	} {
		checkWrong(t, "15.2", body(s), api.OK, 0)
	}
	for _, s := range []string{
		"{ }", "x", "x y", "x()y", "1", "x + 1", "x = ", "let x", "let = 1", "let 1 = 1", "x = = 1", "out", "out out", "out x < y < x", "out x == y == x", "out x +", "out + x", "out x * * y", "out * x", "out ()", "out (x", "out x)", "out x]", "out [x]", "out x[", "out x[]", "out x[1", "out x[1)", "if x", "if { }", "if x { } else", "if x { } else if y { }", "else { }", "while { }", "while x", "need x", "need 1", "need 1 x", "need 1 (2)", "trap x", "trap", "trap (1)", "return", "let z = g() + 1", "x = 1 + g()", "x = (g())", "out g()", "return g()", "if g() { }", "need g() 1", "g(g())", "x[0] = g()", "x[g()] = 1", "g(,)", "g(x,)", "g(,x)", "g(x y)", "g(x", "g x", "x[1]", "x[1] + 1", "x[1] == 1", "g() = 1", "in = 1", "let in = 1", "bytes a 1", "fn h() { }", "comp d { }", "uses a", "x : y", "out x ! y", "out !", "out -", "out x, y", "x, y = 1",
	} {
		if e, _ := verdict(body(s)); e != api.ErrLang {
			t.Fatalf("%q is no wrong shape", s)
		}
		e, line := verdict(body(s))
		checkWrong(t, "15.2", body(s), e, line)
	}
	for _, s := range []string{
		"comp { fn f() { } }", "comp c fn f() { }", "comp c { }", "comp c { fn f() { } ", "comp c { fn f { } }", "comp c { fn () { } }", "comp c { fn f() }", "comp c { f() { } }", "comp c { fn f( { } }", "comp c { fn f(x y) { } }", "comp c { fn f(x,) { } }", "comp c { fn f(,x) { } }", "comp c { fn f(1) { } }", "comp c { fn f(x:) { } }", "comp c { fn f(x: a) { } }", "comp c { fn f(x: uses) { } }", "comp c { fn f(x uses a) { } }", "comp c { fn f(x: uses a b) { } }", "comp c uses { fn f() { } }", "comp c uses a b { fn f() { } }", "comp c uses 1 { fn f() { } }", "comp c uses a, uses b { fn f() { } }", "comp c comp d { fn f() { } }", "comp 1 { fn f() { } }", "bytes a comp c { fn f() { } }", "bytes 1 comp c { fn f() { } }", "bytes 1 a comp c { fn f() { } }", "bytes a b comp c { fn f() { } }", "a 1 comp c { fn f() { } }", "bytes a (1) comp c { fn f() { } }", "bytes a -1 comp c { fn f() { } }", "comp c { fn f() { } } bytes a 1", "comp c { fn f() { } } fn g() { }", "comp c { fn f() { } } }", "fn f() { }", "{ }", "bytes a 1", "words a 1\n", "let x = 1", "comp bytes { fn f() { } }", "comp c { fn words() { } }", "comp c { fn f(comp) { } }", "bytes uses 1 comp c { fn f() { } }", "comp c uses reads { fn f() { } }",
	} {
		e, line := verdict(s)
		if e != api.ErrLang {
			t.Fatalf("%q is no wrong shape", s)
		}
		checkWrong(t, "15.2", s, e, line)
	}
}

// TestEachKeyword: none of them is a name, wherever one must be; a word that is like one is.
func TestEachKeyword(t *testing.T) {
	for _, w := range strings.Fields(keywords) {
		for _, form := range []string{"bytes\n% 1 comp c { fn f() { } }", "comp\n% { fn f() { } }", "comp c { fn\n%() { } }", "comp c { fn f(\n%) { } }", "comp c { fn f() { let\n% = 1 } }", "bytes a 1 comp c uses\n% { fn f() { } }", "bytes a 1 comp c { fn f(x : reads\n%) { } }"} {
			checkWrong(t, "15.2: the keyword "+w, strings.ReplaceAll(form, "%", w), api.ErrLang, 2)
			want := api.OK
			if strings.Contains(form, "a 1") {
				want = api.ErrKnown
			}
			line := 2 * int(min(want, 1))
			checkWrong(t, "15.2: the name "+w+"s", strings.ReplaceAll(form, "%", w+"_"), want, line)
		}
	}
}

// TestDeep: of blocks, brackets and signs 20 may be in one another; a compartment's brace does not count.
func TestDeep(t *testing.T) {
	body := func(s string) string {
		return "bytes a 4 comp c uses a { fn f(x) {\n" + s + "\n} fn g(y) { } fn h() { } }"
	}
	for what, form := range map[string]func(n int) string{
		"brackets":            func(n int) string { return "out " + times("(", n) + "1" + times(")", n) },
		"elements":            func(n int) string { return "out " + times("a[", n) + "1" + times("]", n) },
		"-":                   func(n int) string { return "out " + times("-", n) + "1" },
		"!":                   func(n int) string { return "x = " + times("!", n) + "1" },
		"- and brackets":      func(n int) string { return "out " + times("-(", n/2) + times("!", n%2) + "1" + times(")", n/2) },
		"on the right":        func(n int) string { return "out 1 + " + times("(", n) + "1" + times(")", n) + " * 2" },
		"blocks of if":        func(n int) string { return times("if x { ", n) + times("} ", n) },
		"blocks of else":      func(n int) string { return times("if x { ", n-4) + times("if x { } else { ", 4) + times("} ", n) },
		"blocks of while":     func(n int) string { return times("while x { ", n) + times("} ", n) },
		"a call's":            func(n int) string { return "g(" + times("(", n-1) + "1" + times(")", n-1) + ")" },
		"a value's call's":    func(n int) string { return "x = g(" + times("-", n-1) + "1)" },
		"a call without args": func(n int) string { return times("if x { ", n-1) + "h() " + times("} ", n-1) },
		"of [ expr ] =":       func(n int) string { return "a[" + times("(", n-1) + "1" + times(")", n-1) + "] = 2" },
		"in a while's":        func(n int) string { return times("while x { ", n-1) + "out a[1] " + times("} ", n-1) },
		"side by side":        func(n int) string { return "out " + times("(", n) + "1" + times(")", n) + "+" + times("-", n) + "1" },
		"many side by side":   func(n int) string { return times("x = -1 ", 12) + "out " + times("!", n) + "1" },
	} {
		checkWrong(t, "15.2: 20 deep: "+what, body(form(19)), api.OK, 0)
		checkWrong(t, "15.2: 21 deep: "+what, body(form(20)), api.ErrLang, 2)
		checkWrong(t, "15.2: 100 deep: "+what, body(form(100)), api.ErrLang, 2)
	}
	checkWrong(t, "15.2: the one that would be deeper", body("out "+times("(\n", 40)+"1"+times(")", 40)), api.ErrLang, 2+19)
	checkWrong(t, "15.2: - as well", body("out "+times("-\n", 40)), api.ErrLang, 2+19)
	checkWrong(t, "15.2: ahead of what is wrong behind", body("out "+times("(", 19)+"\n(\n* }"), api.ErrLang, 3)
	checkWrong(t, "15.2: behind what is wrong ahead", body("out\n* "+times("(", 30)), api.ErrLang, 3)
	checkWrong(t, "15.2: the block, not the if", body(times("if x { ", 19)+"if\nx\n{"), api.ErrLang, 4)
	checkWrong(t, "15.2: ahead of 15.3", "bytes a 0 comp c { fn f() {\nout "+times("-", 20)+"1 } }", api.ErrLang, 2)
	checkWrong(t, "15.2: a function's head is not in another one", "comp c { fn f(x) { } }", api.OK, 0)
	checkWrong(t, "15.2: an operator is no sign of a factor", body("out 1"+times(" - 1", 60)), api.OK, 0)
}
