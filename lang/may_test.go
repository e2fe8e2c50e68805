package lang_test

import (
	"strconv"
	"strings"
	"testing"

	"paddock/api"
)

// rule is a source with what is wrong of it, and in which line.
type rule struct {
	source string
	e      api.Errno
	line   int
}

func checkRules(t *testing.T, what string, l []rule) {
	t.Helper()
	for _, c := range l {
		checkWrong(t, what, c.source, c.e, c.line)
	}
}

// checkBodies asks for bodies of in, which stand in line 4.
func checkBodies(t *testing.T, what string, right []string, wrong map[string]api.Errno) {
	t.Helper()
	for _, s := range right {
		checkWrong(t, what, in(s), api.OK, 0)
	}
	for s, e := range wrong {
		checkWrong(t, what, in(s), e, 4)
	}
}

// TestKnownDeclared: names of regions, compartments and functions are one another's.
func TestKnownDeclared(t *testing.T) {
	checkRules(t, "15.3: ErrKnown, what is declared", []rule{
		{"bytes a 1\nbytes a 1 comp c { fn f() { } }", api.ErrKnown, 2}, {"bytes a 1\nwords a 2 comp c { fn f() { } }", api.ErrKnown, 2}, {"bytes a 1 comp\na { fn f() { } }", api.ErrKnown, 2}, {"bytes a 1 comp c { fn\na() { } }", api.ErrKnown, 2}, {"comp c { fn\nc() { } }", api.ErrKnown, 2},
		{"comp c { fn f() { } fn\nf() { } }", api.ErrKnown, 2}, {"comp c { fn f() { } } comp\nc { fn g() { } }", api.ErrKnown, 2}, {"comp c { fn f() { } } comp\nf { fn g() { } }", api.ErrKnown, 2}, {"comp c { fn f() { } } comp d { fn\nf() { } }", api.ErrKnown, 2}, {"comp c { fn d() { } }\ncomp\nd { fn g() { } }", api.ErrKnown, 3},
		{"comp c { fn f() { } } comp d { fn\nc() { } }", api.ErrKnown, 2}, {"bytes a 1 words b 1 comp c { fn f() { } fn g() { } } comp d { fn h() { } }", api.OK, 0},
		{"bytes x 1 bytes y 1\nbytes x 1\nbytes y 1 comp c { fn f() { } }", api.ErrKnown, 2},
	})
	checkRules(t, "15.3: ErrKnown, behind uses and reads", []rule{
		{"comp c uses\nz { fn f() { } }", api.ErrKnown, 2}, {"comp c reads\nz { fn f() { } }", api.ErrKnown, 2}, {"comp c reads\nc { fn f() { } }", api.ErrKnown, 2}, {"comp c uses\nf { fn f() { } }", api.ErrKnown, 2}, {"bytes a 1 comp c uses a uses\na { fn f() { } }", api.ErrKnown, 2}, {"bytes a 1 comp c uses a reads\na { fn f() { } }", api.ErrKnown, 2}, {"bytes a 1 comp c reads a uses\na { fn f() { } }", api.ErrKnown, 2}, {"bytes a 1 bytes b 1 comp c reads a uses b reads\na { fn f() { } }", api.ErrKnown, 2}, {"bytes a 1 comp c reads a { fn f() { } } comp d uses a { fn g() { } }", api.OK, 0},
		{"comp c { fn f(p: uses\nz) { } }", api.ErrKnown, 2}, {"comp c { fn f(p: reads\np) { } }", api.ErrKnown, 2}, {"comp c { fn f(p, q: reads\np) { } }", api.ErrKnown, 2}, {"bytes a 1 comp c { fn f(p: uses a, q: reads a) { } }", api.OK, 0}, {"bytes a 1 comp c { fn f(p: uses\nc) { } }", api.ErrKnown, 2},
	})
}

// TestKnownVisible: params from behind their names on, lets from behind their statements on, up to the end of the block.
func TestKnownVisible(t *testing.T) {
	checkRules(t, "15.3: ErrKnown, params", []rule{
		{"comp c { fn f(a,\na) { } }", api.ErrKnown, 2}, {"comp c { fn f(a, b,\na) { } }", api.ErrKnown, 2}, {"bytes a 1 comp c { fn f(\na) { } }", api.ErrKnown, 2}, {"bytes a 1 comp c uses a { fn f(b,\na) { } }", api.ErrKnown, 2}, {"bytes a 1 comp c { fn f(\na: uses a) { } }", api.ErrKnown, 2}, {"bytes b 1 comp c { fn f(a: uses b,\na) { } }", api.ErrKnown, 2},
		{"comp c { fn f(c, f, g, d) { } fn g(c, f, g, d) { } } comp d { fn h(h) { } }", api.OK, 0}, {"comp c { fn f(x) { } fn g() { out\nx } }", api.ErrKnown, 2}, {"comp c { fn f(x) { let y = 1 } fn g(x) { out\ny } }", api.ErrKnown, 2},
	})
	checkBodies(t, "15.3: ErrKnown, lets", []string{
		"let y = 1 out y", "let f = 1 out f", "let c = 1", "let g = g(1) out g", "if x { let y = 1 out y } let y = 2", "if x { let y = 1 } else { let y = 2 }", "while x { let y = 1 } while x { let y = 1 }", "let y = 1 if x { if x { out y } }", "if x { let y = 1 if x { y = 2 } } let y = 3 out y", "let y = x let z = y", "while x { let y = 1 let z = y y = z }",
	}, map[string]api.Errno{
		"let x = 1": api.ErrKnown, "let p = 1": api.ErrKnown, "let a = 1": api.ErrKnown, "let d = 1": api.ErrKnown, "let y = 1 let y = 2": api.ErrKnown, "let y = y": api.ErrKnown, "let y = 1 + y": api.ErrKnown, "let y = a[y]": api.ErrKnown, "let y = g(y)": api.ErrKnown, "out y let y = 1": api.ErrKnown, "let y = 1 if x { let y = 2 }": api.ErrKnown, "if x { let y = 1 } out y": api.ErrKnown, "if x { let y = 1 } else { out y }": api.ErrKnown, "while x { let y = 1 } y = 2": api.ErrKnown, "while y { let y = 1 }": api.ErrKnown, "if x { if x { let y = 1 } out y }": api.ErrKnown, "if y { } let y = 1": api.ErrKnown, "if x { let y = 1 } if x { out y }": api.ErrKnown,
	})
	checkBodies(t, "15.3: ErrKnown, names", nil, map[string]api.Errno{
		"z = 1": api.ErrKnown, "z[0] = 1": api.ErrKnown, "out z": api.ErrKnown, "out z[0]": api.ErrKnown, "out d[0]": api.ErrKnown, "out d": api.ErrKnown, "d[0] = 1": api.ErrKnown, "d = 1": api.ErrKnown, "out c": api.ErrKnown, "out f": api.ErrKnown, "f = 1": api.ErrKnown, "out 1 + z": api.ErrKnown, "out a[z]": api.ErrKnown, "a[z] = 1": api.ErrKnown, "a[0] = z": api.ErrKnown, "x = z": api.ErrKnown, "if z { }": api.ErrKnown, "while z { }": api.ErrKnown, "need z 1": api.ErrKnown, "return z": api.ErrKnown, "g(z)": api.ErrKnown, "x = g(z)": api.ErrKnown, "out -z": api.ErrKnown, "out !z": api.ErrKnown, "out (z)": api.ErrKnown, "out a[a[z]]": api.ErrKnown,
		"z()": api.ErrKnown, "x = z()": api.ErrKnown, "let y = z(1)": api.ErrKnown, "x()": api.ErrKnown, "a(1)": api.ErrKnown, "c()": api.ErrKnown, "let z = z()": api.ErrKnown,
	})
}

// TestCalledBehind: functions are known wherever they stand; of two of one name the first one is meant.
func TestCalledBehind(t *testing.T) {
	checkRules(t, "15.3: calls", []rule{
		{"comp c { fn f() { g(1) h() } fn g(x) { f() } } comp d { fn h() { f() g(2) h() } }", api.OK, 0},
		{"comp c { fn f() {\ng() } fn g(x) { } }", api.ErrSort, 2}, {"comp c { fn f() { g(1) } fn g(x) { } fn\ng() { } }", api.ErrKnown, 2}, {"comp c { fn f() {\ng() } fn g(x) { } fn\ng() { } }", api.ErrSort, 2}, {"comp c { fn f() {\ng(1) } fn g() { } fn\ng(x) { } }", api.ErrSort, 2}, {"comp c { fn f(x) {\nf() } fn\nf() { } }", api.ErrSort, 2},
		{"bytes g 1 comp c { fn f() { g() } fn\ng() { } }", api.ErrKnown, 2}, {"comp c { fn f() { d() } } comp d { fn\nd() { } }", api.ErrKnown, 2},
	})
}

// TestPhantomRegions: a param for a region that is none is, for a call ahead of it, an integer; what is wrong at the call counts first.
func TestPhantomRegions(t *testing.T) {
	behind := " } fn g(p: uses\n\nz) { } }"
	head := "bytes a 4 comp c uses a { fn f(x, q: uses a) {\n"
	checkRules(t, "15.3: for a region that is none", []rule{
		{head + "g(1)" + behind, api.ErrKnown, 4}, {head + "g(x + 1)" + behind, api.ErrKnown, 4}, {head + "g(a)" + behind, api.ErrSort, 2}, {head + "g(q)" + behind, api.ErrSort, 2}, {head + "g(z)" + behind, api.ErrKnown, 2}, {head + "g(a[4])" + behind, api.ErrBound, 2}, {head + "g(q[4])" + behind, api.ErrBound, 2},
		{head + "g(" + high(7) + ")" + behind, api.ErrKnown, 4}, {head + "g(" + high(8) + ")" + behind, api.ErrRoom, 2}, {head + "g(" + behind, api.ErrLang, 2}, {head + "g()" + behind, api.ErrSort, 2},
	})
	checkRules(t, "15.3: for a region that there is", []rule{
		{head + "h(a)\ng(1)" + " } fn h(p: uses a) { } fn g(p: uses\n\nz) { } }", api.ErrKnown, 5}, {head + "h(" + high(8) + ") } fn h(p: uses a) { } }", api.ErrSort, 2},
	})
}

// high is an expr of a height: the right one is so high.
func high(n int) string {
	return times("1 + (", n-1) + "1" + times(")", n-1)
}

// TestSort: integers where integers must be, regions where regions must be.
func TestSort(t *testing.T) {
	checkBodies(t, "15.3: ErrSort", []string{
		"out x", "out p[0] + q[0] + a[0] + b[0]", "a[0] = 1 p[0] = 1", "x = a[0]", "a[x] = x", "g(x)", "g(a[0])", "h()", "f(1, a, b)", "f(1, p, q)", "f(1, a, q)", "f(1, p, b)", "f(x + a[1], p, b)",
	}, map[string]api.Errno{
		"out a": api.ErrSort, "out b": api.ErrSort, "out p": api.ErrSort, "out q": api.ErrSort, "a = 1": api.ErrSort, "b = 1": api.ErrSort, "p = 1": api.ErrSort, "q = 1": api.ErrSort, "a = g(1)": api.ErrSort, "x = a": api.ErrSort, "x = 1 + p": api.ErrSort, "x = -q": api.ErrSort, "out a[a]": api.ErrSort, "out a[p]": api.ErrSort, "if a { }": api.ErrSort, "while p { }": api.ErrSort, "need b 1": api.ErrSort, "return q": api.ErrSort, "out (a)": api.ErrSort, "let y = a": api.ErrSort,
		"out x[0]": api.ErrSort, "x[0] = 1": api.ErrSort, "x[x] = 1": api.ErrSort, "let y = 1 out y[0]": api.ErrSort, "let y = 1 y[0] = 1": api.ErrSort,
		"b[0] = 1": api.ErrSort, "q[0] = 1": api.ErrSort, "b[x] = 1": api.ErrSort, "q[b[0]] = 1": api.ErrSort,
		"g()": api.ErrSort, "g(1, 2)": api.ErrSort, "h(1)": api.ErrSort, "f()": api.ErrSort, "f(1, a)": api.ErrSort, "f(1, a, b, 1)": api.ErrSort, "x = g()": api.ErrSort, "let y = h(1)": api.ErrSort,
		"g(a)": api.ErrSort, "g(p)": api.ErrSort, "f(a, a, b)": api.ErrSort,
		"f(1, b, b)": api.ErrSort, "f(1, q, b)": api.ErrSort, "f(1, a, a)": api.ErrSort, "f(1, a, p)": api.ErrSort, "f(1, x, b)": api.ErrSort, "f(1, 0, b)": api.ErrSort, "f(1, in, b)": api.ErrSort, "f(1, a[0], b)": api.ErrSort, "f(1, (a), b)": api.ErrSort, "f(1, -a, b)": api.ErrSort, "f(1, a + 0, b)": api.ErrSort, "f(1, a, b < b)": api.ErrSort, "f(1, a, (q))": api.ErrSort,
		"f(1, d, b)": api.ErrKnown, "f(1, z, b)": api.ErrKnown, "f(1, z[0], b)": api.ErrKnown, "f(1, z + 1, b)": api.ErrKnown, "f(1, -z, b)": api.ErrSort, "f(1, a + z, b)": api.ErrSort, "f(1, (z), b)": api.ErrSort, "f(1, 1 + z, b)": api.ErrSort, "f(1, a, d)": api.ErrKnown,
	})
	// What is lent to be read cannot be lent to be used; what is lent to be used can be lent to be read.
	lend := func(head string, param string, wanted string) string {
		return "bytes a 4 bytes o 4 comp c " + head + " { fn f(p: " + param + ") {\ng(p)\n} fn e() {\n\ng(a) } fn g(q: " + wanted + ") { } }"
	}
	checkRules(t, "15.3: ErrSort, lent on", []rule{
		{lend("uses a", "uses a", "uses a"), api.OK, 0}, {lend("uses a", "uses a", "reads a"), api.OK, 0}, {lend("uses a", "reads a", "reads a"), api.OK, 0}, {lend("reads a", "uses a", "reads a"), api.OK, 0}, {lend("reads a", "reads a", "reads a"), api.OK, 0}, {lend("uses a", "reads a", "uses a"), api.ErrSort, 2}, {lend("reads a", "uses a", "uses a"), api.ErrSort, 5}, {lend("uses a", "uses o", "uses a"), api.ErrSort, 2}, {lend("uses a", "uses a", "uses o"), api.ErrSort, 2}, {lend("uses o", "uses a", "uses a"), api.ErrKnown, 5}, {lend("", "reads a", "reads a"), api.ErrKnown, 5},
	})
	checkWrong(t, "15.3: ErrSort, at the arg's first token", in("f(1,\na\n, (\nb))"), api.ErrSort, 6)
	checkWrong(t, "15.3: ErrSort, at the call's name", in("x =\nf\n(1, z,\n (b), 3)"), api.ErrSort, 5)
}

// TestBound: numbers of regions, of codes, and of elements.
func TestBound(t *testing.T) {
	size := func(kind string, n string) string { return kind + " a\n" + n + " comp c { fn f() { } }" }
	for _, kind := range []string{"bytes", "words"} {
		checkRules(t, "15.3: ErrBound, a region's", []rule{{size(kind, "0"), api.ErrBound, 2}, {size(kind, "1"), api.OK, 0}, {size(kind, "512"), api.OK, 0}, {size(kind, "513"), api.ErrBound, 2}, {size(kind, "2147483647"), api.ErrBound, 2}, {size(kind, "000"), api.ErrBound, 2}})
	}
	checkBodies(t, "15.3: ErrBound", []string{
		"need x 0", "need x 255", "trap 0", "trap 255", "need 256 1", "need x + 256 1", "out a[3]", "out p[3]", "out b[1]", "out q[1]", "a[3] = 4", "p[3] = 4", "out a[(4)]", "out a[4 + 0]", "out a[-1]", "a[(99)] = 1", "out a[!4]", "out 4", "out b[a[3]]",
	}, map[string]api.Errno{
		"need x 256": api.ErrBound, "trap 256": api.ErrBound, "trap 2147483647": api.ErrBound, "need 1 2147483647": api.ErrBound, "out a[4]": api.ErrBound, "out p[4]": api.ErrBound, "out b[2]": api.ErrBound, "out q[2]": api.ErrBound, "a[4] = 1": api.ErrBound, "p[4] = 1": api.ErrBound, "out a[2147483647]": api.ErrBound, "out a[b[2]]": api.ErrBound, "a[b[2]] = 1": api.ErrBound, "a[0] = a[4]": api.ErrBound, "g(a[4])": api.ErrBound, "if a[4] { }": api.ErrBound, "out 1 + (a[4])": api.ErrBound,
	})
	checkWrong(t, "15.3: ErrBound, at the number", in("out a[\n4\n]"), api.ErrBound, 5)
	checkWrong(t, "15.3: ErrBound, at the code", in("need x\n256"), api.ErrBound, 5)
	for _, n := range []int{1, 7, 16, 17, 511, 512} {
		for _, kind := range []string{"bytes ", "words "} {
			of := func(k int) string {
				return kind + "a " + strconv.Itoa(n) + " comp c uses a { fn f() { a[" + strconv.Itoa(k) + "] = 1 } }"
			}
			checkRules(t, "15.3: ErrBound, elements", []rule{{of(0), api.OK, 0}, {of(n - 1), api.OK, 0}, {of(n), api.ErrBound, 1}, {of(n + 1), api.ErrBound, 1}})
		}
	}
}

// TestRoomOfThings: regions, compartments, functions, regions of a head, names.
func TestRoomOfThings(t *testing.T) {
	regions := func(n int) string {
		var b strings.Builder
		for k := range n {
			b.WriteString("bytes\nr" + strconv.Itoa(k) + " 1 ")
		}
		return b.String()
	}
	comps := func(n int) string {
		var b strings.Builder
		for k := range n {
			b.WriteString("comp\nc" + strconv.Itoa(k) + " { fn f" + strconv.Itoa(k) + "() { } } ")
		}
		return b.String()
	}
	fns := func(n int) string {
		var b strings.Builder
		for k := range n {
			b.WriteString("fn\nf" + strconv.Itoa(k) + "() { } ")
		}
		return "comp c { " + b.String() + "}"
	}
	checkRules(t, "15.3: ErrRoom", []rule{
		{regions(8) + small, api.OK, 0}, {regions(9) + small, api.ErrRoom, 10}, {regions(20) + small, api.ErrRoom, 10}, {comps(4), api.OK, 0}, {comps(5), api.ErrRoom, 6}, {comps(9), api.ErrRoom, 6}, {fns(16), api.OK, 0}, {fns(17), api.ErrRoom, 18}, {fns(20), api.ErrRoom, 18},
		{strings.ReplaceAll(fns(14), "\n", " ") + " comp d { fn g() { } fn h() { } fn\ni() { } }", api.ErrRoom, 2}, {strings.ReplaceAll(fns(14), "\n", " ") + " comp d { fn g() { } fn h() { } }", api.OK, 0},
		{strings.ReplaceAll(regions(8), "\n", " ") + "comp c uses r1 reads r2 uses r3 { fn f() { } }", api.OK, 0}, {strings.ReplaceAll(regions(8), "\n", " ") + "comp c uses r1 reads r2 uses r3 reads\nr4 { fn f() { } }", api.ErrRoom, 2}, {strings.ReplaceAll(regions(8), "\n", " ") + "comp c uses r1 reads r2 uses r3 reads\nr4 uses\nr5 { fn f() { } }", api.ErrRoom, 2}, {strings.ReplaceAll(regions(8), "\n", " ") + "comp c uses r1 reads r2 uses r3 reads\nr1 { fn f() { } }", api.ErrKnown, 2},
		{"comp c { fn f(a, b, d, e, g) { } }", api.OK, 0}, {"comp c { fn f(a, b, d, e, g,\nh) { } }", api.ErrRoom, 2}, {"comp c { fn f(a, b, d, e, g,\na) { } }", api.ErrKnown, 2}, {"bytes r 1 comp c { fn f(a, b, d, e, g,\nh: uses r) { } }", api.ErrRoom, 2}, {"bytes r 1 comp c { fn f(a, b, d: uses r, e: uses r, g) { } }", api.OK, 0},
	})
	checkBodies(t, "15.3: ErrRoom, names", []string{
		"let y = 1 let z = 2", "if x { let y = 1 let z = 1 } let y = 1 let z = 1", "if x { let y = 1 let z = 1 } else { let v = 1 let w = 1 }", "let y = 1 while x { let z = 1 } if x { let w = 1 }", "let y = 1 if x { if x { let z = 1 } let z = 2 }",
	}, map[string]api.Errno{
		"let y = 1 let z = 2 let w = 3": api.ErrRoom, "let y = 1 if x { let z = 2 let w = 3 }": api.ErrRoom, "let y = 1 let z = 2 if x { } else { let w = 3 }": api.ErrRoom, "let y = 1 let z = 2 while x { let w = 3 }": api.ErrRoom, "let y = 1 let z = 2 let y = 3": api.ErrKnown, "let y = 1 let z = 2 let a = 3": api.ErrKnown,
	})
}

// TestRoomOfTokens: 150 between a compartment's braces, each compartment's by themselves.
func TestRoomOfTokens(t *testing.T) {
	checkWrong(t, "15.3: 149 tokens", "comp c { fn f(x) { "+times("out 1 ", 71)+"}\n}", api.OK, 0)
	checkWrong(t, "15.3: 150 tokens", "comp c { fn f() { "+times("out 1 ", 72)+"\n}\n}", api.OK, 0)
	checkWrong(t, "15.3: the 151st token is a brace", "comp c { fn f(x) { "+times("out 1 ", 72)+"\n}\n}", api.ErrRoom, 2)
	checkWrong(t, "15.3: the 151st token is a number", "comp c { fn f() { "+times("out 1 ", 72)+"out\n1\n} }", api.ErrRoom, 2)
	checkWrong(t, "15.3: the 151st token is far ahead of the end", "comp c { fn f() { "+times("out 1 ", 72)+"out\n1\n"+times("out 1\n", 900)+"} }", api.ErrRoom, 2)
	checkWrong(t, "15.3: the 151st token is a function", "comp c { fn f() { "+times("out 1 ", 72)+"}\nfn\ng() { } }", api.ErrRoom, 2)
	checkWrong(t, "15.3: heads do not count", "bytes a 1 words b 1 comp c uses a reads b { fn f() { "+times("out 1 ", 72)+"} } comp d reads a { fn g() { "+times("out 1 ", 72)+"} }", api.OK, 0)
	checkWrong(t, "15.3: of the second compartment", "comp c { fn f() { "+times("out 1 ", 72)+"} }\ncomp d { fn g(x) { "+times("out 1 ", 72)+"\n} }", api.ErrRoom, 3)
	checkWrong(t, "15.3: remarks are no tokens", "comp c { "+times("# x\n", 500)+"fn f() { "+times("out 1 #\n", 72)+"} }", api.OK, 0)
}

// TestRoomOfExprs: each height at each place.
func TestRoomOfExprs(t *testing.T) {
	for _, c := range []struct {
		form string
		most int
	}{
		{"out\n%", 6}, {"if\n% { }", 6}, {"while\n% { }", 6}, {"need\n% 1", 6}, {"return\n%", 6}, {"x =\n%", 6}, {"let y =\n%", 6}, {"a[\n%] = 1", 6}, {"a[0] =\n%", 5}, {"a[x] =\n%", 5}, {"a[" + high(6) + "] =\n%", 5}, {"g(\n%)", 7}, {"x = g(\n%)", 7}, {"let y = g(\n%)", 7}, {"f(\n%, a, b)", 7},
	} {
		for h := 1; h <= 9; h++ {
			for what, e := range map[string]string{
				"on the right": high(h), "in brackets": "(" + high(h) + ")", "of an element": "b[" + high(h) + " & 1]", "behind -": "-(" + high(h) + ")", "behind !": "!(" + high(h) + ")", "on the left": "(" + high(h) + ") + 1", "compared": "(" + high(h) + ") < 1",
				"one more on the right": "1 < (" + high(max(h-1, 1)) + ")",
			} {
				want, line := api.OK, 0
				of := h
				if what == "of an element" || what == "on the left" || what == "compared" || what == "one more on the right" {
					of = max(h, 2)
				}
				if of > c.most {
					want, line = api.ErrRoom, 5
				}
				checkWrong(t, "15.3: ErrRoom, an expr "+what, in(strings.Replace(c.form, "%", e, 1)), want, line)
			}
		}
	}
	checkBodies(t, "15.3: ErrRoom, long ones are not high", []string{"out 1" + times(" + 1", 50), "out 1 * 2 + 3 * 4 + 5 * 6 < 7 * 8 + 9"}, nil)
	// The k-th arg: with k names ahead of it.
	for k := range 5 {
		for h := 1; h <= 9; h++ {
			want, line := api.OK, 0
			if k+h > 7 {
				want, line = api.ErrRoom, 3
			}
			args := times("1, ", k) + "\n" + high(h) + times(", 1", 4-k)
			checkWrong(t, "15.3: ErrRoom, an arg", "comp c { fn f() {\ng("+args+") } fn g(a, b, d, e, h) { } }", want, line)
		}
	}
	// Those behind the fifth, for a function that is wrong behind them.
	checkWrong(t, "15.3: ErrRoom, a seventh arg", "comp c { fn f() { g(1, 1, 1, 1, 1, 1,\n1) } fn g(a, b, d, e, h,\ni, j) { } }", api.ErrRoom, 3)
	checkWrong(t, "15.3: ErrRoom, a seventh arg that is high", "comp c { fn f() { g(1, 1, 1, 1, 1, 1,\n1 + 1) } fn g(a, b, d, e, h,\ni, j) { } }", api.ErrRoom, 2)
	checkWrong(t, "15.3: ErrRoom, an eighth arg", "comp c { fn f() { g(1, 1, 1, 1, 1, 1, 1,\n1) } fn g(a, b, d, e, h,\ni, j, k) { } }", api.ErrRoom, 2)
	checkWrong(t, "15.3: not asked of one that is lent", "bytes r 1 comp c uses r { fn f() { g(1, 1, 1, 1, r) } fn g(a, b, d, e, h: uses r) { } }", api.OK, 0)
}

// TestOrder: the first token counts, and at one token ErrKnown, ErrSort, ErrBound, ErrRoom.
func TestOrder(t *testing.T) {
	long := times("out 1 ", 72) // behind fn f() { these make 149
	checkRules(t, "15.3: at one token", []rule{
		{"comp c { fn f() { " + long + "out\nz } }", api.ErrKnown, 2}, {"comp c { fn f() { " + long + "z\n= 1 } }", api.ErrKnown, 1}, {"bytes a 1 comp c uses a { fn f() { " + long + "out\na } }", api.ErrSort, 2}, {"comp c { fn f() { " + long + "trap\n256 } }", api.ErrBound, 2}, {"comp c { fn f() { " + long + "trap\n255 } }", api.ErrRoom, 2}, {"comp c { fn f() { " + long + "out\n1 + (1 + (1 + (1 + (1 + (1 + 1))))) } }", api.ErrRoom, 2},
		{"comp c { fn f() { " + long + "} fn\nf() { } }", api.ErrRoom, 1}, {"comp c { fn f(x) { " + times("out 1 ", 71) + "} fn\nf() { } }", api.ErrKnown, 2},
	})
	checkRules(t, "15.3: at one token, names", []rule{
		{in("out\nz + (1 + (1 + (1 + (1 + (1 + 1)))))"), api.ErrKnown, 5}, {in("out\na + (1 + (1 + (1 + (1 + (1 + 1)))))"), api.ErrSort, 5}, {in("out\nx + (1 + (1 + (1 + (1 + (1 + 1)))))"), api.ErrRoom, 5}, {in("let y = 1 let z = 2 let\nx = 3"), api.ErrKnown, 5}, {in("f(1,\nz + 1, b)"), api.ErrKnown, 5}, {in("g(\nz + (1 + (1 + (1 + (1 + (1 + (1 + 1))))))"), api.ErrLang, 6}, {in("g(\nz + (1 + (1 + (1 + (1 + (1 + (1 + 1)))))))"), api.ErrKnown, 5}, {in("g(\na + (1 + (1 + (1 + (1 + (1 + (1 + 1)))))))"), api.ErrSort, 5},
	})
	wrongs := []rule{{"out z", api.ErrKnown, 0}, {"out a", api.ErrSort, 0}, {"out a[9]", api.ErrBound, 0}, {"out " + high(7), api.ErrRoom, 0}, {"z()", api.ErrKnown, 0}, {"g()", api.ErrSort, 0}, {"trap 300", api.ErrBound, 0}, {"let y = 1 let v = 1 let w = 1", api.ErrRoom, 0}}
	for _, a := range wrongs {
		for _, b := range wrongs {
			checkWrong(t, "15.3: the earlier token", in(a.source+"\n"+b.source), a.e, 4)
		}
		checkWrong(t, "15.3: ahead of what is wrong later", in(a.source)+"\ncomp c { fn f() { } }", a.e, 4)
		checkWrong(t, "15.3: behind what is wrong ahead", "bytes w 0\n"+in(a.source), api.ErrBound, 1)
		checkWrong(t, "15.3: behind 15.2", in(a.source)+"\n}", api.ErrLang, 9)
	}
	checkRules(t, "15.3: within one statement", []rule{
		{in("a[\n9\n] = z"), api.ErrBound, 5}, {in("b[\n9\n] = z"), api.ErrSort, 4}, {in("a[\nz] = " + high(9)), api.ErrKnown, 5}, {in("a[x] =\n" + high(9) + "+\nz"), api.ErrRoom, 5}, {in("a[x] =\n" + high(4) + "+\nz"), api.ErrKnown, 6}, {in("need\nz\n256"), api.ErrKnown, 5}, {in("let\nx = \nz"), api.ErrKnown, 5}, {in("f(\nz,\n1,\nz)"), api.ErrKnown, 5}, {in("f(1,\n1,\nz)"), api.ErrSort, 5}, {in("x\n= g(\nz,\n2)"), api.ErrSort, 5},
	})
}
