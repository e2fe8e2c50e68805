package shell_test

import (
	"fmt"
	"strings"
	"testing"

	"paddock/api"
	"paddock/asm"
	"paddock/shell"
)

const wrong = "error 55" // what `x` tells

func TestNothing(t *testing.T) {
	for _, script := range []string{"", "\n", "\n\n\n", " ", "\t", " \t \n\t\n", ";", ";;", " ; x", "; x\n\t;x", ";\n;\n", "\n;program a\n", " ;source a", ";\x00\xff\r"} {
		checkText(t, "24.1", script, "")
	}
}

func TestLength(t *testing.T) {
	for _, filler := range []string{";", " ", "\n", "\t", "\x00"} {
		want := ""
		if filler == "\x00" {
			want = "error 51\n"
		}
		checkText(t, "24.1: just so many", times(filler, api.MaxScript), want)
		checkText(t, "24.1: one more", times(filler, api.MaxScript+1), "error 50\n")
	}
	lays := program("a", adder)
	full := lays + "check a ;" + times("-", api.MaxScript-len(lays)-9)
	checkTells(t, "24.1: just so many", full, "program a ok", "check a taken 3")
	for _, more := range []string{"\n", " ", "x", full, times("x\n", 100)} {
		checkTells(t, "24.1: more, and nothing is done", full+more, "error 50")
	}
	checkTells(t, "24.1: bytes count, not letters", ";"+times("ä", api.MaxScript/2), "error 50")
	checkText(t, "24.1: bytes count, not letters", ";-"+times("ä", api.MaxScript/2-1), "")
	checkTells(t, "24.1: an open block that is too long", "program a\n"+times("x", api.MaxScript), "error 50")
}

func TestLastLine(t *testing.T) {
	lays := program("a", adder)
	for _, end := range []string{"", "\n", "\n\n", " ", ";", "\t;x", "\n ", "\n;"} {
		checkTells(t, "24.1: the last line", lays+"check a"+end, "program a ok", "check a taken 3")
		checkTells(t, "24.1: the last line is the end of a block", strings.TrimSuffix(lays, "\n")+end, "program a ok")
		checkTells(t, "24.1: of a block without a line", "program a\nend"+end, "program a error 55 line 1")
	}
}

func TestTokens(t *testing.T) {
	lays := program("a", adder)
	for _, line := range []string{
		"check a", " check a", "check  a", "check\ta", "\tcheck \t a\t", "check a;", "check a ;", "check a;b", "check a ; b ; c", "check a;check b", "check a;\x00", "check a;\xff\xfe", "check a\t;\r",
	} {
		checkTells(t, "24.1: blanks and remarks", lays+line, "program a ok", "check a taken 3")
	}
	checkTells(t, "24.1: a remark right behind the first token", lays+"check;a", "program a ok", wrong)
	checkTells(t, "24.1: a remark within a token", lays+"che;ck a\nch;", "program a ok", wrong, wrong)
	for _, line := range []string{"check a\r", "check\ra", "\rcheck a", "\r", "check a\x00", "\x00", "check\x00a", "check a\v", "check\fa", "check\u00a0a", "check \x85a", "check\x85a", "chäck a", "check ä", "check a\xff", "\xff", "\xc3", "check \xe2\x80\xa8a", "\u2028", "check a,", "check_ a-", "check \"a\"", "check a #A", "-1"} {
		checkTells(t, "24.1: other bytes are within a token", lays+line, "program a ok", "error 51")
	}
	for b := range 256 {
		c := string([]byte{byte(b)})
		want := "error 51"
		switch {
		case c == "\n":
			checkTells(t, "24.1: a line's end", lays+"check a"+c+"x", "program a ok", "check a taken 3", wrong)
			continue
		case c == " " || c == "\t":
			want = wrong
		case c == ";":
			want = "check a taken 3"
		case b < 128 && strings.Contains("0123456789abcdefghijklmnopqrstuvwxyzABCDEFGHIJKLMNOPQRSTUVWXYZ_", c):
			want = "error 53"
		}
		checkTells(t, fmt.Sprintf("24.1: the byte %d", b), lays+"check a"+c+"x", "program a ok", want)
	}
}

func TestHowManyCommands(t *testing.T) {
	for n := range 70 {
		want := times(wrong+"\n", min(n, 64))
		if n > 64 {
			want += "error 42\n"
		}
		checkText(t, fmt.Sprintf("24.1: %d commands", n), times("x\n", n), want)
		checkText(t, "24.1: with lines without tokens", times("\n \t\nx;x\n;x\n", n), want)
		checkText(t, "24.1: without an end of the last line", strings.TrimSuffix(times("x\n", n), "\n"), want)
	}
	all := times(wrong+"\n", 64)
	for _, more := range []string{"", "\n", ";x", "\n \n\t;\n"} {
		checkText(t, "24.1: behind the 64th nothing but lines without tokens", times("x\n", 64)+more, all)
	}
	for _, more := range []string{"a-b", "\x00", "check a", "program a", "program a\nend", "source\n", "program a b\nx", "end", "x\nx\nx", "load a #0", "run"} {
		checkText(t, "24.1: whatever the 65th one is", times("x\n", 64)+more, all+"error 42\n")
	}
	lays := program("a", adder)
	checkText(t, "24.1: what was done ahead is told", lays+times("check a\n", 64), "program a ok\n"+times("check a taken 3\n", 63)+"error 42\n")
	checkText(t, "24.1: nothing more is done", lays+times("check a\n", 64)+lays+"print a\n", "program a ok\n"+times("check a taken 3\n", 63)+"error 42\n")
	checkText(t, "24.1: commands that are wrong count", times("x\n;\n", 40)+times("a-b\n", 23)+lays+"check a", times(wrong+"\n", 40)+times("error 51\n", 23)+"program a ok\nerror 42\n")
}

// TestBlockAsLastCommand: a block is one command, however many lines it has.
func TestBlockAsLastCommand(t *testing.T) {
	lays := program("a", adder)
	checkText(t, "24.1: the 64th", times("x\n", 63)+lays, times(wrong+"\n", 63)+"program a ok\n")
	checkText(t, "24.1: the 64th, and another", times("x\n", 63)+lays+"x", times(wrong+"\n", 63)+"program a ok\nerror 42\n")
	checkText(t, "24.1: the 65th", times("x\n", 64)+lays, times(wrong+"\n", 64)+"error 42\n")
	checkText(t, "24.1: the 64th, open", times("x\n", 63)+"program a\n"+times("x\n", 9), times(wrong+"\n", 64))
	checkText(t, "24.1: the 65th, open", times("x\n", 64)+"program a\n"+times("x\n", 9), times(wrong+"\n", 64)+"error 42\n")
	checkText(t, "24.1: 64 of them", times("program a\nx\nend\n", 64), times("program a error 55 line 1\n", 64))
	checkText(t, "24.1: 65 of them", times("program a\nx\nend\n", 65), times("program a error 55 line 1\n", 64)+"error 42\n")
	checkText(t, "24.1: a block of many lines", "program a\n"+times("x\n", 200)+"end\n"+times("x\n", 63), "program a error 55 line 1\n"+times(wrong+"\n", 63))
	checkText(t, "24.1: and a command more", "program a\n"+times("x\n", 200)+"end\n"+times("x\n", 64), "program a error 55 line 1\n"+times(wrong+"\n", 63)+"error 42\n")
}

func TestEndOfBlock(t *testing.T) {
	for _, end := range []string{"end", " end", "\tend", "end ", "end\t", " \t end \t ", "end;", "end ;x", "end;end", " end;\x00\xff", "end\t; remark"} {
		checkTells(t, "24.1: the end of a block: "+end, "program a\n"+adder+end+"\ncheck a", "program a ok", "check a taken 3")
	}
	for _, line := range []string{"END", "End", "end x", "end end", "x end", "end:", ":end", "end :", "ends", "endprogram", "end\r", "end\x00", "end_", ";end", "; end", "e;nd", "en d", "end #", "end 1", "\"end\"", ".end", "end.", "e\u200bnd"} {
		checkTells(t, "24.1: no end of a block: "+line, "program a\ndepth 1\n"+line+"\ncheck a", wrong)
		_, e, at := asm.Parse("depth 1\n" + line + "\n")
		want := fmt.Sprintf("program a error %d line %d", e, at)
		checkTells(t, "24.1: no end of a block: "+line, "program a\ndepth 1\n"+line+"\nend\ncheck a", want, "error 53")
	}
	checkTells(t, "24.1: the first end is the end", "program a\nend\nend\nend x\nprogram b\nend\n", "program a error 55 line 1", wrong, wrong, "program b error 55 line 1")
}

// TestText: it is as it stands, so that all counts for what reads it.
func TestText(t *testing.T) {
	remarked := "; a program\n\n \t\ndepth 1 ; once\ncomp;\n" + "L0:\n\tin r1\n;check a\n  addi r1 r1 1;x\n  halt r1\n;end\n ; end\ngate main 0 0 ->;\n\n"
	checkTells(t, "24.1: remarks and lines without tokens", "program a\n"+remarked+"end\ncheck a\nprint a", "program a ok", "check a taken 3", "program a", adder, "end")
	for k, c := range []struct{ text, want string }{
		{"", "program a error 55 line 1"},
		{"\n", "program a error 55 line 1"},
		{"\n\n;\n", "program a error 55 line 1"},
		{"\n\n;\nx\n", "program a error 55 line 4"},
		{"depth 1\n\n;remark\n\ncomp\ncheck a\n", "program a error 53 line 6"},
		{"depth 1\n;program b\n$\n", "program a error 51 line 3"},
		{"depth 1\ncomp\nret\n\x00\n", "program a error 51 line 4"},
		{"depth 1\ncomp\nret\r\n", "program a error 51 line 3"},
		{"depth 1\ncomp\nret ;\r\xff\n", "program a error 42 line 0"},
		{"program b\ndepth 1\n", "program a error 55 line 1"},
		{"source b\n", "program a error 55 line 1"},
		{"check a\nrun a 0 : fuel 1\n", "program a error 55 line 1"},
		{"a-b\n", "program a error 51 line 1"},
		{"a$b\n", "program a error 51 line 1"},
	} {
		checkTells(t, fmt.Sprintf("24.1: the text %d of a block", k), "program a\n"+c.text+"end", c.want)
	}
	// A source has other remarks, and a line more than ends of lines.
	for k, c := range []struct{ text, want string }{
		{"comp c { fn f() { out 1 } } # end\n", "source a ok"},
		{"comp c { fn f()\n\n{ out 1 } }\n\n", "source a ok"},
		{"comp c { fn f() { out 1 } } ; no remark\n", "source a error 150 line 1"},
		{"", "source a error 150 line 1"},
		{"\n", "source a error 150 line 2"},
		{"\n\n\n", "source a error 150 line 4"},
		{"comp c {\n", "source a error 150 line 2"},
		{"comp c {\n;\n", "source a error 150 line 2"},
		{"comp c { fn f() { out\tx } }\n", "source a error 153 line 1"},
		{"comp end\n{\nfn\nend x\n", "source a error 150 line 4"},
		{"comp c { fn f() { out 1 } }\r\n", "source a error 150 line 1"},
	} {
		checkTells(t, fmt.Sprintf("24.1: the text %d of a source's block", k), "source a\n"+c.text+"end", c.want)
	}
}

// TestWrongCommandWithBlock: its lines are no commands all the same.
func TestWrongCommandWithBlock(t *testing.T) {
	for _, word := range []string{"program", "source"} {
		for _, c := range []struct{ behind, want string }{
			{"", wrong}, {" 1", wrong}, {" :", wrong}, {" =", wrong}, {" #", wrong}, {" a b", wrong}, {" a 1", wrong}, {" = a", wrong}, {" a = b", wrong}, {" a :", wrong},
			{" a-b", "error 51"}, {" a b$", "error 51"}, {" $ a", "error 51"}, {" a1234567890123456", "error 51"}, {" 1a", "error 51"}, {" _a", "error 51"}, {" a\r", "error 51"},
			{";a", wrong}, {" ;a", wrong}, {" 99999999999999999999", wrong}, {" 999999999999999999999", "error 51"},
		} {
			script := word + c.behind + "\ncheck a\nx\nprogram b\nsource c\n\n;\n$\n"
			checkTells(t, "24.1: a wrong "+word+" with a block", script+"end\n", c.want)
			checkTells(t, "24.1: a wrong "+word+" with a block", script+"end\ncheck a", c.want, "error 53")
			checkTells(t, "24.1: a wrong "+word+" with an open block", script, wrong)
			checkTells(t, "24.1: a wrong "+word+" with an open block", word+c.behind, wrong)
			checkTells(t, "24.1: a wrong "+word+" with a block of nothing", word+c.behind+"\nend\nend", c.want, wrong)
		}
	}
	for _, word := range []string{"Program", "PROGRAM", "programs", "progra", "Source", "sources", "program:", "load"} {
		got := shell.Do(word + " a\nx\nend\n")
		if strings.Count(got, "\n") != 3 {
			t.Errorf("24.1: %s begins no block: %q", word, got)
		}
	}
	checkTells(t, "24.1: the first token counts", "x program a\nx\nend", wrong, wrong, wrong)
	checkTells(t, "24.1: the first token counts", "print program\nx\nend", "error 53", wrong, wrong)
	checkTells(t, "24.1: the first token counts", ": program a\nx\nend", wrong, wrong, wrong)
}

// TestOpenBlock: what is open goes on to the end, and is one error alone.
func TestOpenBlock(t *testing.T) {
	lays := program("a", adder)
	for _, rest := range []string{"", "\n", "\n" + adder, "\nprogram b\n" + adder, "\ncheck a\nend x\n", "\nEND", "\n;end\n", "\nend end\n;"} {
		checkTells(t, "24.1: an open block", lays+"program c"+rest, "program a ok", wrong)
		checkTells(t, "24.1: an open block", lays+"source c"+rest, "program a ok", wrong)
		checkTells(t, "24.1: an open block of a name that is at hand", lays+"program a"+rest, "program a ok", wrong)
	}
	checkTells(t, "24.1: an open block holds what would lay something", "program b\n"+strings.TrimSuffix(lays, "end\n"), wrong)
}
