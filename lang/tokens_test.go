package lang_test

import (
	"testing"

	"paddock/api"
)

// small is a program without anything.
const small = "comp c { fn f() { } }"

// TestLongTexts: MaxText bytes may be, one more may not, whatever they are.
func TestLongTexts(t *testing.T) {
	fill := func(n int, with string) string { return small + times(with, n-len(small)) }
	for _, with := range []string{" ", "\t", "\n", "#"} {
		checkWrong(t, "15.1: MaxText bytes", fill(api.MaxText, with), api.OK, 0)
		checkWrong(t, "15.1: one more", fill(api.MaxText+1, with), api.ErrLong, 0)
	}
	checkWrong(t, "15.1: one byte more, of no token", times("$", api.MaxText+1), api.ErrLong, 0)
	checkWrong(t, "15.1: MaxText bytes, of no token", times("$", api.MaxText), api.ErrLang, 1)
	checkWrong(t, "15.1: ahead of all else", "$\n"+fill(api.MaxText-1, " "), api.ErrLong, 0)
	checkWrong(t, "15.1: a word alone", times("x", api.MaxText+1), api.ErrLong, 0)
	checkWrong(t, "15.1: a much longer one", times(" ", 1<<20), api.ErrLong, 0)
	checkWrong(t, "15.1: bytes are counted, not letters", small+"#"+times("é", (api.MaxText-len(small)-1)/2)+"ab", api.ErrLong, 0)
}

// TestBetween: blanks, tabs, newlines and remarks stand anywhere between tokens, and say nothing.
func TestBetween(t *testing.T) {
	for _, source := range []string{
		"comp c{fn f(){}}", "\n\tcomp\n\nc \t{ fn\tf(\n)\n{\n}\n}\n", "comp#\nc#}{\n{fn f#$ é \xff\x00\n(){}}#", "# all\n#of\n  # it\ncomp c { fn f() { } } # here",
		"comp c{fn f(){out 1#\n}}", "comp c{fn f(x){if x{}else{}}}", "comp c{fn f(x){x=x<<1x=x}}", "comp c{fn f(x){need 1 2let y=3out 4trap 5}}",
	} {
		checkWrong(t, "15.1", source, api.OK, 0)
	}
	if s := ran(t, "comp c{fn f(x){out x#out 7\nout x+#1\n2#\n}}", 0, []uint64{5}); len(s.out) != 2 || s.out[1] != 7 {
		t.Errorf("15.1: put out %v", s.out)
	}
	// A word goes on through digits and _, a number through digits alone.
	checkWrong(t, "15.1: a number and a name", "comp c { fn f() { out 1a = 2 } }", api.ErrKnown, 1)
	checkWrong(t, "15.1: a keyword and more is a name", "comp c { fn f() { let if1 = 1 let in_ = 2 out if1 + in_ } }", api.OK, 0)
	checkWrong(t, "15.1: what is told of a remark's line", "comp c {\n# fn\n\n# {\nfn f(] { } }", api.ErrLang, 5)
	checkWrong(t, "15.1: a remark at the end of a wrong line", "comp c { # }\nfn ] # x\n", api.ErrLang, 2)
}

// TestNoTokens: bytes that are none, words and numbers that are too great.
func TestNoTokens(t *testing.T) {
	for _, c := range []struct {
		source string
		line   int
	}{
		{"$", 1}, {"\n\n$", 3}, {"comp c { fn f() { out 1 }\n}\r", 2}, {"comp c { fn f() { out 1 } }\n\n\x00", 3}, {"comp c { fn F() { } }", 1}, {"comp c {\nfn fA() { } }", 2}, {"comp c {\nfn f() { out _ } }", 2}, {"comp c { fn f() {\nout 1_ } }", 2},
		{"comp c { fn f() {\nout é } }", 2}, {"comp\n\xff c { fn f() { } }", 2}, {"comp c { fn f() { } } ;", 1}, {"comp c { fn f() { out 'a' } }", 1}, {"comp c { fn f() { out 1 / 2 } }", 1}, {"comp c { fn f() { out 1 % 2 } }", 1}, {"comp c { fn f() { out ~1 } }", 1}, {"comp c { fn f() { out 1.5 } }", 1},
		{"comp c { fn f() { out \x7f } }", 1}, {"comp c { fn f() { out \x0b } }", 1}, {"comp c { fn f() { out \u00a0 1 } }", 1}, {"comp c { fn f() { out @ } }", 1}, {"comp c { fn f() { out ` } }", 1},
	} {
		checkWrong(t, "15.1: a byte that is no token", c.source, api.ErrLang, c.line)
	}
	checkWrong(t, "15.1: a word of 12 bytes", "comp abcdefghijkl { fn f1_________2() { } }", api.OK, 0)
	checkWrong(t, "15.1: a word of 13 bytes", "comp c {\nfn f1__________2() { } }", api.ErrLang, 2)
	checkWrong(t, "15.1: a word of 13 bytes that begins as a keyword", "comp c { fn f() {\nreturnreturnr 1 } }", api.ErrLang, 2)
	checkWrong(t, "15.1: a word of very many", "comp c {\n\nfn "+times("x", 5000)+"() { } }", api.ErrLang, 3)
	// The first such place counts, ahead of 15.2 and 15.3.
	checkWrong(t, "15.1: behind what the grammar refuses", "} }\n{\n$", api.ErrLang, 3)
	checkWrong(t, "15.1: ahead of what the grammar refuses", "comp\n$\n}", api.ErrLang, 2)
	checkWrong(t, "15.1: two such places", "comp\nabcdefghijklm\n$ 2147483648", api.ErrLang, 2)
	checkWrong(t, "15.1: behind what 15.3 refuses", "bytes a 0 comp c { fn f() { } }\n\n9999999999", api.ErrLang, 3)
	checkWrong(t, "15.1: behind brackets that are too deep", "comp c { fn f() { out "+times("(", 40)+"\n$", api.ErrLang, 2)
}

// TestNumbers: up to 2147483647, with as many digits as there are.
func TestNumbers(t *testing.T) {
	for _, c := range []struct {
		digits string
		want   uint64
		right  bool
	}{
		{"0", 0, true}, {"00", 0, true}, {"007", 7, true}, {"2147483646", 2147483646, true}, {"2147483647", 2147483647, true}, {"02147483647", 2147483647, true}, {times("0", 300) + "2147483647", 2147483647, true}, {times("0", 5000), 0, true},
		{"2147483648", 0, false}, {"02147483648", 0, false}, {"4294967296", 0, false}, {"4294967297", 0, false}, {"9223372036854775808", 0, false}, {"18446744073709551616", 0, false}, {"18446744073709551617", 0, false}, {"1" + times("0", 300), 0, false}, {times("9", 5000), 0, false},
	} {
		source := "comp c { fn f() {\nout " + c.digits + " } }"
		if !c.right {
			checkWrong(t, "15.1: a number that is too great", source, api.ErrLang, 2)
			continue
		}
		if s := ran(t, source, 0, nil); len(s.out) != 1 || s.out[0] != c.want {
			t.Errorf("15.1: %s is put out as %v", short(c.digits), s.out)
		}
	}
	checkWrong(t, "15.1: as a region's, too", "bytes a 2147483648 comp c { fn f() { } }", api.ErrLang, 1)
	checkWrong(t, "15.1: one that is great, but a number", "bytes a 2147483647 comp c { fn f() { } }", api.ErrBound, 1)
	checkWrong(t, "15.1: zeros ahead", "bytes a 0512 comp c uses a { fn f() { a[000511] = 1 } }", api.OK, 0)
	checkWrong(t, "15.1: there is no sign in a number", "comp c { fn f() { trap -1 } }", api.ErrLang, 1)
}

// TestSigns: the longer one of two.
func TestSigns(t *testing.T) {
	for _, c := range []struct {
		expr string
		want uint64
	}{
		{"3==3", 1}, {"3!=3", 0}, {"3<=2", 0}, {"3>=2", 1}, {"3<<2", 12}, {"12>>2", 3}, {"1<2", 1}, {"1>2", 0}, {"3-!2", 3}, {"1==!0", 1}, {"1!=!0", 0}, {"1<-1", 1}, {"1<=-1", 1}, {"8>>!0", 4}, {"2--2", 4}, {"!!5", 1}, {"1<<1<<1", 4}, {"!0==1", 1}, {"!(0!=0)", 1}, {"3 & 2 | 1^1", 2},
	} {
		if s := ran(t, "comp c{fn f(){return "+c.expr+"}}", 0, nil); s.end != api.Halted || s.value != c.want {
			t.Errorf("15.1, 15.6: %s is %d, want %d", c.expr, s.value, c.want)
		}
	}
	for _, expr := range []string{"1===1", "1!==1", "1<>2", "1=>2", "1<<<2", "1>>>2", "1<<=2", "1= =1", "1! =1", "1< =1", "1< <1", "1=<2", "1&&1", "1||1", "1**2"} {
		checkWrong(t, "15.1, 15.2: "+expr, "comp c { fn f() { return "+expr+" } }", api.ErrLang, 1)
	}
	checkWrong(t, "15.1: = and -", "comp c { fn f(x) { x=-1 } }", api.OK, 0)
	checkWrong(t, "15.1: = and !", "comp c { fn f(x) { x=!1 } }", api.OK, 0)
	checkWrong(t, "15.1: a sign that is none by itself", "comp c { fn f(x) { x==1 } }", api.ErrLang, 1)
}
