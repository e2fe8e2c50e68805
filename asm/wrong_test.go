package asm_test

import (
	"slices"
	"strings"
	"testing"

	"paddock/api"
)

// fault is a token that may not stand in a place, and what is told of it.
type fault struct {
	token string
	want  api.Errno
}

// faults are those of a place in a line, by a letter: k the word that a line begins with, w another word that must be, y one where an arrow may stand, too, N an address, D a number up to 2^31 - 1, S a seal, R a register, P permissions, T a target, M the name of a gate, L a label, O an operation, I a number of 32 bits, G one from 0 on, B a count of bytes, Q an operand's seal, C a code, A an arrow, H data.
func faults(place byte) []fault {
	form := func(l ...string) []fault {
		var faults []fault
		for _, token := range l {
			faults = append(faults, fault{token, api.ErrForm})
		}
		return faults
	}
	number := func(l ...string) []fault {
		faults := form("a", "r1", "int", "a:", "#", "->", "-")
		for _, token := range append(l, "18446744073709551616", "-18446744073709551616") {
			faults = append(faults, fault{token, api.ErrNumber})
		}
		return faults
	}
	switch place {
	case 'w':
		return form("other", "Int", "0", "a:", "#", "->", "-")
	case 'y':
		return form("other", "Int", "0", "a:", "#", "-")
	case 'N':
		return number("-1")
	case 'D':
		return number("-1", "2147483648", "0xffffffffffffffff")
	case 'T':
		return append(form("a:", "#", "->", "-"), fault{"-1", api.ErrNumber}, fault{"2147483648", api.ErrNumber})
	case 'S', 'C':
		return number("-1", "256")
	case 'I':
		return number("-2147483649", "2147483648")
	case 'G':
		return number("-1", "2147483648")
	case 'B':
		return number("-1", "65537")
	case 'Q':
		return number("-1", "16")
	case 'R':
		return append(form("0", "a:", "#", "->", "-"), fault{"r16", api.ErrName}, fault{"x", api.ErrName})
	case 'P':
		return append(form("0", "a:", "#", "->"), fault{"rr", api.ErrName}, fault{"z", api.ErrName})
	case 'M':
		return append(form("0", "a:", "#", "->", "-"), fault{"used", api.ErrTwice})
	case 'L':
		return append(form("0", "#", "->", "-"), fault{"used:", api.ErrTwice})
	case 'O':
		return append(form("0", "#", "->", "-"), fault{"foo", api.ErrName}, fault{"HALT", api.ErrName})
	case 'A':
		return form("0", "a:", "#", "-", "other")
	case 'H':
		return form("0", "a", "a:", "->", "-")
	}
	return nil
}

// form is a line: what stands ahead of it, its tokens, a letter for each place, and how many tokens are enough for a line (0: all).
type form struct {
	ahead, line, places string
	enough              int
}

func forms() []form {
	gate := "depth 1\ngate used 0 0 ->\n"
	code := "depth 1\ncomp\nused:\n"
	return []form{
		{"", "depth 1", "kD", 0},
		{"depth 1\n", "region 0 16 bytes #01", "kNNwH", 4},
		{"depth 1\n", "region 0 16 slots", "kNNw", 0},
		{"depth 1\nregion 0 16 slots\n", "slot int at 0", "kwwN", 0},
		{"depth 1\nregion 0 16 slots\n", "slot cap 0 1 2 3 rw 4 at 5", "kwNNNNPSwN", 0},
		{"depth 1\n", "comp", "k", 0},
		{"depth 1\ncomp\n", "root r8 0 1 2 - 3", "kRNNNPS", 0},
		{gate, "gate g 0 0 ->", "kMDTA", 0},
		{gate, "gate g 0 0 int -> int int", "kMDTyAww", 6},
		{gate, "gate g 0 lab cap 0 1 2 3 r 4 int cap 5 6 7 8 - 9 -> cap 0 1 2 3 r 4", "kMDTyNNNNPSyyNNNNPSAwNNNNPS", 20},
		{code, "a: b: halt r1", "LLOR", 1},
		{code, "ret", "O", 0},
		{code, "li r1 2", "ORI", 0},
		{code, "add r1 r2 r3", "ORRR", 0},
		{code, "lb r1 r2 3", "ORRI", 0},
		{code, "jmp lab", "OT", 0},
		{code, "beq r1 r2 3", "ORRT", 0},
		{code, "cpc r1 lab", "ORT", 0},
		{code, "call g", "OT", 0},
		{code, "trap 1", "OC", 0},
		{code, "csetbi r1 r2 3", "ORRB", 0},
		{code, "candp r1 r2 rw", "ORRP", 0},
		{code, "glt r1 2 3", "ORGC", 0},
		{code, "gtag r1 2", "ORC", 0},
		{code, "gin r1 2 3", "ORBC", 0},
		{code, "gperm r1 - 2", "ORPC", 0},
		{code, "gseal r1 2 3", "ORQC", 0},
	}
}

func (f form) tokens() []string { return strings.Fields(f.line) }

// number is the number of the line.
func (f form) number() int { return strings.Count(f.ahead, "\n") + 1 }

// check reads the form's text with other tokens in its line; behind that stands a line that is no better.
func (f form) check(t *testing.T, tokens []string, want api.Errno) {
	t.Helper()
	checkWrong(t, "5.3", f.ahead+strings.Join(tokens, " ")+"\n@", want, f.number())
}

func with(tokens []string, at int, token string) []string {
	tokens = slices.Clone(tokens)
	tokens[at] = token
	return tokens
}

// TestFormsAreRight: with nothing changed it is the next line that is wrong.
func TestFormsAreRight(t *testing.T) {
	for _, f := range forms() {
		if len(f.tokens()) != len(f.places) {
			t.Fatalf("%q has not a letter for each token", f.line)
		}
		checkWrong(t, "5.2", f.ahead+f.line+"\n@", api.ErrToken, f.number()+1)
	}
}

func TestOneWrongToken(t *testing.T) {
	for _, f := range forms() {
		for at := range f.tokens() {
			for _, x := range faults(f.places[at]) {
				f.check(t, with(f.tokens(), at, x.token), x.want)
			}
		}
	}
}

// TestTwoWrongTokens: the first one tells the error, but what is no token at all comes ahead of all else.
func TestTwoWrongTokens(t *testing.T) {
	for _, f := range forms() {
		for at := range f.tokens() {
			for _, x := range faults(f.places[at]) {
				wrong := with(f.tokens(), at, x.token)
				for behind := at + 1; behind < len(wrong); behind++ {
					for _, y := range faults(f.places[behind]) {
						f.check(t, with(wrong, behind, y.token), x.want)
					}
				}
				for none := range len(wrong) + 1 {
					f.check(t, slices.Insert(slices.Clone(wrong), none, "1a"), api.ErrToken)
				}
			}
		}
	}
}

// TestLineEndsTooEarly cuts each line behind each of its tokens.
func TestLineEndsTooEarly(t *testing.T) {
	for _, f := range forms() {
		for n := 1; n < len(f.places); n++ {
			early := f.tokens()[:n]
			if f.enough == 0 || n < f.enough || !mayEnd(f, n) {
				f.check(t, early, api.ErrForm)
			}
			for at := range early {
				for _, x := range faults(f.places[at]) {
					f.check(t, with(early, at, x.token), x.want)
				}
			}
		}
	}
}

// mayEnd tells whether a line may be over behind n tokens, of which there are enough: between two types, or labels.
func mayEnd(f form, n int) bool {
	next := f.places[n]
	return next == 'H' || next == 'w' || next == 'L' || next == 'O'
}

// TestLineGoesOn puts a token behind the end of each line.
func TestLineGoesOn(t *testing.T) {
	for _, f := range forms() {
		for _, more := range []string{"0", "a", "a:", "#", "->", "-", "int", "ret", "r1"} {
			if more == "int" && strings.HasPrefix(f.line, "gate") {
				continue
			}
			if f.line == "ret" && more == "a:" {
				continue
			}
			f.check(t, append(f.tokens(), more), api.ErrForm)
			for at := range f.tokens() {
				for _, x := range faults(f.places[at]) {
					f.check(t, append(with(f.tokens(), at, x.token), more), x.want)
				}
			}
		}
	}
	checkWrong(t, "5.3", inCode("ret a:"), api.ErrForm, 3)
	checkWrong(t, "5.3", "depth 1\nregion 0 16 bytes # #", api.ErrForm, 2)
	checkWrong(t, "5.3", "depth 1\nregion 0 16 slots #", api.ErrForm, 2)
	checkWrong(t, "5.3", "depth 1\ncomp a", api.ErrForm, 2)
}

// TestWordsThatLinesBeginWith puts each word where it does not belong.
func TestWordsThatLinesBeginWith(t *testing.T) {
	words := []string{"depth", "region", "slot", "comp", "root", "gate"}
	for _, word := range words {
		checkWrong(t, "5.3", inCode("a: "+word), api.ErrName, 3)
		checkWrong(t, "5.3", inCode("a: b: "+word+" r8 0 0 0 - 0"), api.ErrName, 3)
		for _, ahead := range []string{"", "depth 1\n", "depth 1\nregion 0 16 slots\n", "depth 1\ngate g 0 0 ->\n"} {
			at := strings.Count(ahead, "\n") + 1
			for _, other := range []string{strings.ToUpper(word), word + "s", word[1:], word + "_"} {
				checkWrong(t, "5.3", ahead+other+" 1", api.ErrForm, at)
			}
			checkWrong(t, "5.3", ahead+word+":", api.ErrForm, at)
		}
		checkWrong(t, "5.3", inCode("ret", strings.ToUpper(word)), api.ErrName, 4)
	}
	for _, word := range []string{"depth", "region", "slot", "root"} {
		checkWrong(t, "5.3", inCode("ret", word+" r16 0"), api.ErrForm, 4)
		checkWrong(t, "5.3", inCode("a:", word+" r8 0 0 0 - 0"), api.ErrForm, 4)
		checkWrong(t, "5.3", "depth 1\ngate g 0 0 ->\n"+word+" r8 0 0 0 - 0", api.ErrForm, 3)
	}
	for _, line := range []string{"0", "->", "-", "#", "#00 a", "5 depth"} {
		for _, ahead := range []string{"", "depth 1\n", "depth 1\nregion 0 16 slots\n", "depth 1\ncomp\n", "depth 1\ncomp\nret\n", "depth 1\ncomp\na: ", "depth 1\ngate g 0 0 ->\n"} {
			checkWrong(t, "5.3", ahead+line, api.ErrForm, strings.Count(ahead, "\n")+1)
		}
	}
	for _, line := range []string{"halt r1", "a:", "a: ret", "foo", "ret"} {
		for _, ahead := range []string{"", "depth 1\n", "depth 1\nregion 0 16 bytes\n", "depth 1\nregion 0 16 slots\nslot int at 0\n", "depth 1\ngate g 0 0 ->\n", "depth 1\ncomp\nret\ngate g 0 0 ->\n"} {
			checkWrong(t, "5.3", ahead+line, api.ErrForm, strings.Count(ahead, "\n")+1)
		}
	}
}

func TestTwice(t *testing.T) {
	for _, lines := range [][]string{
		{"a: a: ret"}, {"a:", "a: ret"}, {"a: ret", "a:"}, {"a: b: c:", "ret", "d: b: ret"}, {"a: ret", "ret", "ret", "b: a: c: foo"}, {"abcdefghijklmnop: abcdefghijklmnop: ret"}, {"a: A: ret", "A:"},
	} {
		checkWrong(t, "5.3", inCode(lines...), api.ErrTwice, 2+len(lines))
	}
	checkCode(t, "5.3", inCode("a: A: b: aa: a_: a0:", "ret"), api.Inst{Op: api.RET})
	checkWrong(t, "5.3", "depth 1\ngate a 0 0 ->\ngate b 0 0 ->\n\ngate a 0 0 ->", api.ErrTwice, 5)
	checkWrong(t, "5.3", "depth 1\ngate a 0 0 ->\ngate A 0 0 ->\ngate a", api.ErrTwice, 4)
	checkWrong(t, "5.3", "depth 1\ngate a 0 away ->\ngate a -1 foo ->", api.ErrTwice, 3)
	checkWrong(t, "5.3", "depth 1\ncomp\na: ret\ncomp\na: ret\ncomp\na: ret\nb: a: ret", api.ErrTwice, 8)
}

// lineErrors are lines of code that are wrong each in its own way; the last two show when all lines have been read.
func lineErrors() []fault {
	return []fault{{"@", api.ErrToken}, {"halt", api.ErrForm}, {"a: a:", api.ErrTwice}, {"foo", api.ErrName}, {"li r1 2147483648", api.ErrNumber}, {"jmp away", api.ErrName}, {"call away", api.ErrName}}
}

// TestErrorsOfTwoLines: the first line that is wrong by itself tells the error, and only if there is none a name that is none.
func TestErrorsOfTwoLines(t *testing.T) {
	late := func(n int) bool { return n >= len(lineErrors())-2 }
	for i, x := range lineErrors() {
		checkWrong(t, "5.3", inCode("ret", x.token, "ret"), x.want, 4)
		for j, y := range lineErrors() {
			want, at := x.want, 4
			if late(i) && !late(j) {
				want, at = y.want, 6
			}
			checkWrong(t, "5.3", inCode("ret", x.token, "ret", y.token, "ret"), want, at)
			checkWrong(t, "5.3", "depth 1\ncomp\nret\n"+x.token+"\ncomp\n"+y.token+"\ngate g 0 0 ->", want, at)
		}
	}
}

// TestNamesAreAskedLast: lines are read to the last one first, gates too, and the image is asked behind the names.
func TestNamesAreAskedLast(t *testing.T) {
	away := "depth 1\ncomp\nret\njmp away\nret\n"
	checkWrong(t, "5.3", away, api.ErrName, 4)
	checkWrong(t, "5.3", away+"gate g 0 0 ->", api.ErrName, 4)
	checkWrong(t, "5.3", away+"gate g 0 gone ->", api.ErrName, 4)
	checkWrong(t, "5.3", away+"gate g 0 0", api.ErrForm, 6)
	checkWrong(t, "5.3", away+"gate g 0 -1 ->", api.ErrNumber, 6)
	checkWrong(t, "5.3", away+"gate g 0 0 ->\ngate g 0 0 ->", api.ErrTwice, 7)
	checkWrong(t, "5.3", away+"gate g 0 0 ->\nslot", api.ErrForm, 7)
	checkWrong(t, "5.3", away+"gate g 0 0 ->\n\n#0", api.ErrToken, 8)
	checkWrong(t, "5.3", strings.Replace(away, "depth 1", "depth 17", 1)+"gate g 9 0 ->", api.ErrName, 4)
	checkWrong(t, "5.3", strings.Replace(away, "jmp away", "call g", 1)+"gate g 0 gone ->\ngate h 0 lost ->", api.ErrName, 6)
	checkWrong(t, "5.3", strings.Replace(away, "jmp away", "call away", 1)+"gate g 0 gone ->", api.ErrName, 4)
}

// TestErrorsOfTheImage: what a whole text says may be wrong in each way of chapter 4, and is told with line 0.
func TestErrorsOfTheImage(t *testing.T) {
	gate := "gate g 0 0 ->\n"
	for text, want := range map[string]api.Errno{
		"depth 1":                                                                     api.ErrCount,
		"depth 0\ncomp\nret\n" + gate:                                                 api.ErrCount,
		"depth 17\ncomp\nret\n" + gate:                                                api.ErrCount,
		"depth 1\ncomp\nret":                                                          api.ErrCount,
		"depth 1\n" + gate:                                                            api.ErrCount,
		"depth 1\ncomp\nroot r8 0 0 0 - 0\na:\n" + gate:                               api.ErrCount,
		"depth 1\n" + strings.Repeat("comp\nret\n", 5) + gate:                         api.ErrCount,
		"depth 1\ncomp\n" + strings.Repeat("ret\n", 401) + gate:                       api.ErrCount,
		"depth 1\nregion 0 8 bytes\ncomp\nret\n" + gate:                               api.ErrRegion,
		"depth 1\nregion 0 16 bytes\nregion 0 16 bytes\ncomp\nret\n" + gate:           api.ErrRegion,
		"depth 1\nregion 18446744073709551600 16 bytes\ncomp\nret\n" + gate:           api.ErrRegion,
		"depth 1\nregion 0 32 slots\nslot cap 0 0 0 0 - 0 at 0\ncomp\nret\n" + gate:   api.ErrRegion,
		"depth 1\nregion 0 16 slots\nslot int at 0\ncomp\nret\n" + gate:               api.ErrSlot,
		"depth 1\nregion 0 16 slots\nslot cap 0 0 0 0 x 0 at 0\ncomp\nret\n" + gate:   api.ErrSlot,
		"depth 1\nregion 0 16 slots\nslot cap 0 0 0 0 - 255 at 0\ncomp\nret\n" + gate: api.ErrSlot,
		"depth 1\nregion 0 16 slots\nslot cap 0 0 1 2 - 0 at 3\ncomp\nret\n" + gate:   api.ErrSlot,
		"depth 1\ncomp\nroot r7 0 0 0 - 0\nret\n" + gate:                              api.ErrRoot,
		"depth 1\ncomp\nroot r9 0 0 0 - 0\nroot r8 0 0 0 - 0\nret\n" + gate:           api.ErrRoot,
		"depth 1\ncomp\nroot r8 0 0 0 x 0\nret\n" + gate:                              api.ErrRoot,
		"depth 1\ncomp\nroot r8 0 0 0 - 16\nret\n" + gate:                             api.ErrRoot,
		"depth 1\ncomp\nroot r8 1 0 0 - 0\nret\n" + gate:                              api.ErrRoot,
		"depth 1\ncomp\njmp 1\n" + gate:                                               api.ErrTarget,
		"depth 1\ncomp\ncall 1\n" + gate:                                              api.ErrTarget,
		"depth 1\ncomp\nret\ngate g 1 0 ->":                                           api.ErrGate,
		"depth 1\ncomp\nret\ngate g 0 1 ->":                                           api.ErrGate,
		"depth 1\ncomp\nret\ngate g 0 0 int int int int int int int int ->":           api.ErrGate,
		"depth 1\ncomp\nret\ngate g 0 0 -> int int int int int int int int":           api.ErrGate,
		"depth 1\ncomp\nret\ngate g 0 0 cap 0 0 0 0 x 0 ->":                           api.ErrType,
		"depth 1\ncomp\nret\ngate g 0 0 -> cap 0 0 1 0 - 0":                           api.ErrType,
		"depth 1\ncomp\nret\n" + gate + "gate h 0 0 -> cap 0 0 0 0 - 16":              api.ErrType,
	} {
		checkWrong(t, "5.3", text, want, 0)
	}
}
