package shell_test

import (
	"fmt"
	"strings"
	"testing"

	"paddock/api"
	"paddock/asm"
	"paddock/image"
	"paddock/lang"
)

// asShown is what `print a` tells of a program.
func asShown(t *testing.T, m api.Image) string {
	t.Helper()
	text, e := asm.Print(m)
	if e != api.OK {
		t.Fatalf("Print: %d", e)
	}
	return "program a\n" + text + "end\n"
}

// texts are programs of all kinds.
func texts() []string {
	return []string{
		adder, twice, asking, memory, faulty,
		"depth 16; comp; halt r0; gate main 0 0 ->",
		"depth 1; comp; jmp 0; comp; ret; comp; trap 9; comp; out r1; jmp 0; gate x 3 0 int ->; gate y 2 0 -> int int; gate z 1 0 int int int int int int int ->; gate main 0 0 ->",
		"depth 2; region 0 16 bytes #2a; comp; root r8 0 16 0 r 0; root r9 0 16 5 s 0; cseal r1 r8 r9; call keep; halt r1; comp; root r10 0 16 5 u 0; cunseal r2 r1 r10; lb r1 r2 0; ret; gate main 0 0 ->; gate keep 1 0 cap 0 16 0 0 r 5 -> int",
		"depth 1; region 0 65536 bytes #" + times("01", 3000) + "; comp; root r15 0 4294967296 18446744073709551615 rwcdsu 15; ret; gate main 0 0 cap 0 1 0 18446744073709551615 - 7 ->",
		"depth 1; region 65520 16 slots; slot cap 7 9 1 5 su 15 at 3; comp; li r1 -2147483648; glt r1 2147483647 255; gin r8 65536 1; gperm r8 rwcdxsu 2; gseal r8 15 3; gtag r0 0; cpc r1 0; jc r1; gate main 0 2 ->",
		"depth 1; comp; l: beq r1 r2 l; bne r1 r2 m; m: blt r1 r2 l; bge r1 r2 m; in r1; csetbi r1 r1 5; csetb r1 r1 r2; candp r1 r1 rw; csame r1 r1 r1; ctag r1 r1; trap 0; gate main 0 m ->",
	}
}

// TestProgram: what the text says is at hand.
func TestProgram(t *testing.T) {
	for _, text := range texts() {
		m := parse(t, text)
		checkText(t, "24.4", program("a", text)+"print a", "program a ok\n"+asShown(t, m))
	}
}

// TestWrongPrograms: each error of chapter 5, and those of chapter 4 behind it.
func TestWrongPrograms(t *testing.T) {
	for _, c := range []struct {
		text string
		e    api.Errno
		line int
	}{
		{"", 55, 1}, {"x", 55, 1}, {"depth 1; $", 51, 2}, {"; ; depth", 55, 3}, {"depth x", 55, 1}, {"depth 1; depth 1", 55, 2}, {"depth 1 1", 55, 1}, {"depth -1", 52, 1}, {"depth 2147483648", 52, 1},
		{"depth 1; comp; halt r16", 53, 3}, {"depth 1; comp; halt 1", 55, 3}, {"depth 1; comp; li r1 4294967296", 52, 3}, {"depth 1; comp; none r1", 53, 3}, {"depth 1; comp; jmp away; ret; gate g 0 0 ->", 53, 3}, {"depth 1; comp; call away; gate g 0 0 ->", 53, 3}, {"depth 1; comp; ret; gate g 0 away ->", 53, 4},
		{"depth 1; comp; l:; l: ret; gate g 0 0 ->", 54, 4}, {"depth 1; comp; ret; gate g 0 0 ->; gate g 0 0 ->", 54, 5}, {"depth 1; comp; root r8 0 16 0 q 0", 53, 3}, {"depth 1; comp; root r8 0 16 0 r 256", 52, 3}, {"depth 1; comp; ret; root r8 0 16 0 r 0", 55, 4},
		{"depth 1; comp", 42, 0}, {"depth 0; comp; ret; gate g 0 0 ->", 42, 0}, {"depth 17; comp; ret; gate g 0 0 ->", 42, 0}, {"depth 1; comp; ret", 42, 0}, {"depth 1; comp; gate g 0 0 ->", 42, 0},
		{"depth 1; region 1 16 bytes; comp; ret; gate g 0 0 ->", 43, 0}, {"depth 1; region 0 32 bytes; region 16 16 bytes; comp; ret; gate g 0 0 ->", 43, 0}, {"depth 1; comp; ret; gate g 0 0 cap 2 1 0 0 r 0 ->", 44, 0}, {"depth 1; region 0 16 slots; slot int at 0; comp; ret; gate g 0 0 ->", 45, 0}, {"depth 1; comp; root r7 0 16 0 r 0; ret; gate g 0 0 ->", 46, 0},
		{"depth 1; comp; ret; gate g 1 0 ->", 47, 0}, {"depth 1; comp; ret; gate g 0 1 ->", 47, 0}, {"depth 1; comp; jmp 1; gate g 0 0 ->", 48, 0}, {"depth 1; comp; call 1; gate g 0 0 ->", 48, 0}, {"depth 1; comp; trap 256; gate g 0 0 ->", 52, 3},
	} {
		checkTells(t, "24.4: "+c.text, "program n\n"+rows(c.text)+"end", fmt.Sprintf("program n error %d line %d", c.e, c.line))
		if _, e, line := asm.Parse(rows(c.text)); e != c.e || line != c.line {
			t.Errorf("5: Parse of %s: %d, line %d", c.text, e, line)
		}
	}
	long := "depth 1\n" + times("x", 100)
	checkTells(t, "24.4", "program n\n"+long+"\nend", "program n error 51 line 2")
}

// TestSource: what Compile makes of it is at hand.
func TestSource(t *testing.T) {
	for _, text := range []string{
		"comp c { fn f(x) { out x return x + 1 } }", squares, "bytes b 9; # end; comp c reads b {;  fn f() {;   out b[3];  }; }",
		"comp one { fn end() { } }; comp program { fn source() { trap 7 } }",
	} {
		text = rows(text)
		m, e, line := lang.Compile(text)
		if e != api.OK {
			t.Fatalf("Compile: %d, line %d of %s", e, line, text)
		}
		checkText(t, "24.4", "source a\n"+text+"end\nprint a", "source a ok\n"+asShown(t, m))
	}
}

// TestWrongSources: each error of chapter 15.
func TestWrongSources(t *testing.T) {
	for _, c := range []struct {
		text string
		e    api.Errno
		line int
	}{
		{"", 150, 2}, {"x", 150, 1}, {"comp c {; fn f() {; out 1 $; } }", 150, 3}, {"comp c {; ; ", 150, 3}, {"bytes b 8; bytes b 8; comp c { fn f() { } }", 153, 2}, {"comp c {; fn f() {; out x } }", 153, 3}, {"comp c { fn f() {; g() } }", 153, 2},
		{"words w 8; comp c uses w { fn f() {; out w } }", 151, 3}, {"words w 8; comp c reads w { fn f() {; ; w[1] = 2 } }", 151, 4}, {"words w 8; comp c uses w { fn f() { w[7] = 1; w[8] = 1 } }", 152, 3}, {"bytes b 513; comp c { fn f() { } }", 152, 1}, {"comp c { fn f() {; trap 256 } }", 152, 2},
		{"comp c { fn f() { } }; comp d { fn g() { } }; comp e { fn h() { } }; comp p { fn q() { } }; comp r { fn s() { } }", 154, 5}, {"comp c { fn f(a, b, d, e, g,; h) { } }", 154, 2}, {"comp c {; fn f() {; out 1 + (1 + (1 + (1 + (1 + (1 + (1 + 1)))))) } }", 154, 3},
	} {
		text := rows(c.text)
		if _, e, line := lang.Compile(text); e != c.e || line != c.line {
			t.Errorf("15: Compile of %q: %d, line %d", text, e, line)
		}
		checkTells(t, "24.4: "+c.text, "source n\n"+text+"end", fmt.Sprintf("source n error %d line %d", c.e, c.line))
	}
}

func TestLoad(t *testing.T) {
	for _, text := range texts() {
		b := bytesOf(t, text)
		checkText(t, "24.4", "load a "+data(b)+"\nprint a", "load a ok\n"+asShown(t, parse(t, text)))
	}
	// The first example of chapter 4.
	checkTells(t, "24.4", "load a #504144444b310100010100010020000000000000000000000000\nprint a\ncheck a", "load a ok", "program a", "depth 1; comp; L0:;   ret; gate G0 0 L0 ->", "end", "check a taken 1")
}

// TestWrongBytes: each error of chapter 4, and its byte.
func TestWrongBytes(t *testing.T) {
	b := bytesOf(t, "depth 1; region 0 16 bytes #07; comp; root r8 0 16 0 r 0; ret; gate g 0 0 cap 0 16 0 0 r 0 ->")
	turned := func(k int, to byte) string { return b[:k] + string([]byte{to}) + b[k+1:] }
	code := strings.Index(b, "\x20\x00\x00\x00\x00\x00\x00\x00\x00")
	for _, c := range []struct {
		bytes string
		e     api.Errno
		at    int
	}{
		{"", 40, 0}, {"P", 40, 0}, {"PADDK", 40, 0}, {"PADDK2", 40, 0}, {"paddk1", 40, 0}, {b[1:], 40, 0}, {turned(0, 0), 40, 0},
		{"PADDK1", 41, 6}, {b[:9], 41, 9}, {b[:len(b)-1], 41, len(b) - 1}, {b[:code+3], 41, code + 3},
		{b + "\x00", 49, len(b)}, {b + b, 49, len(b)}, {b + times("\xff", 100), 49, len(b)},
		{turned(code, 14), 31, code}, {turned(code, 0), 31, code}, {turned(code, 255), 31, code}, {turned(code+1, 1), 32, code}, {turned(code+7, 1), 32, code},
		{turned(len(b)-36, 2), 44, len(b) - 36}, {turned(6, 0), 42, 0}, {turned(6, 17), 42, 0}, {turned(10, 1), 43, 0}, {turned(14, 15), 43, 0}, {turned(22, 0), 43, 0}, {turned(24, 7), 46, 0}, {turned(code+9, 1), 47, 0},
		{b[:code] + "\x14\x00\x00\x00\x01\x00\x00\x00" + b[code+8:], 48, 0}, {b[:code] + "\x1f\x00\x00\x00\x01\x00\x00\x00" + b[code+8:], 48, 0},
	} {
		if _, e, at := image.Decode(c.bytes); e != c.e || at != c.at {
			t.Errorf("4.9: Decode of %x: %d, %d, want %d, %d", c.bytes, e, at, c.e, c.at)
		}
		checkTells(t, fmt.Sprintf("24.4: %x", c.bytes), "load n "+data(c.bytes), fmt.Sprintf("load n error %d at %d", c.e, c.at))
	}
	for n := range len(b) {
		checkModel(t, "24.4: cut bytes", "load n "+data(b[:n]))
		checkModel(t, "24.4: turned bytes", "load n "+data(turned(n, b[n]+1))+"\nprint n\ncheck n")
	}
}

// TestNothingIsKept: from one call to another.
func TestNothingIsKept(t *testing.T) {
	checkTells(t, "24: the call", program("a", adder)+"name a 0 x", "program a ok", "name a ok")
	checkTells(t, "24: the call", "check a\nprint a\nlink b = a", "error 53", "error 53", "error 53")
}

// TestLaidOver: what is laid under a name stands in the place of what was there.
func TestLaidOver(t *testing.T) {
	adderBytes, twiceBytes := data(bytesOf(t, adder)), data(bytesOf(t, twice))
	checkTells(t, "24.3", program("a", adder)+program("a", twice)+"print a", "program a ok", "program a ok", "program a", twice, "end")
	checkTells(t, "24.3", program("a", adder)+"load a "+twiceBytes+"\nprint a", "program a ok", "load a ok", "program a", twice, "end")
	checkTells(t, "24.3", "load a "+twiceBytes+"\nload a "+adderBytes+"\nprint a", "load a ok", "load a ok", "program a", adder, "end")
	checkTells(t, "24.3", program("a", twice)+program("b", adder)+"link a = b\nprint a\nprint b", "program a ok", "program b ok", "link a ok", "program a", adder, "end", "program b", adder, "end")
	checkTells(t, "24.3", program("a", twice)+program("b", adder)+"trim a = b\nprint a\nprint b", "program a ok", "program b ok", "trim a ok", "program a", adder, "end", "program b", adder, "end")
	checkTells(t, "24.3", program("a", twice)+source("a", "comp c { fn f() { trap 3 } }")+"run a 0 : fuel 9", "program a ok", "source a ok", "run a 0 trapped 3 0 gate 0 at 0", "  out")
	// What was laid of another one does not follow it.
	checkTells(t, "24.3", program("a", adder)+"link b = a\ntrim c = a\n"+program("a", twice)+"print b\nprint c\nprint a",
		"program a ok", "link b ok", "trim c ok", "program a ok", "program b", adder, "end", "program c", adder, "end", "program a", twice, "end")
}

// TestErrorsLayNothing: all stays as it was, also under the name.
func TestErrorsLayNothing(t *testing.T) {
	lays := program("a", adder) + program("f", faulty) + "name a 0 x\nneed f 0 y\n"
	told := []string{"program a ok", "program f ok", "name a ok", "need f ok"}
	behind := append([]string{"program a", adder, "end", "link c ok", "program f", faulty, "end"}, "link d error 171 at 0")
	for _, c := range []struct{ script, want string }{
		{"program a\ndepth 1\nend", "program a error 42 line 0"}, {"program a\nx\nend", "program a error 55 line 1"}, {"program f\n" + adder + "$\nend", "program f error 51 line 8"},
		{"source a\ncomp\nend", "source a error 150 line 2"}, {"source f\nend", "source f error 150 line 1"}, {"load a #", "load a error 40 at 0"}, {"load f " + data(bytesOf(t, adder)) + "00", "load f error 49 at 42"},
		{"link a = a a", "link a error 171 at 1"}, {"link a = f", "link a error 171 at 0"}, {"link a = a c", "error 53"}, {"link f = f", "link f error 171 at 0"}, {"trim a = f", "trim a error 160"}, {"trim f = f", "trim f error 160"}, {"trim a = c", "error 53"},
		{"name a 1 z", "name a error 47"}, {"need a 1 z", "need a error 47"}, {"name f 1 z", "name f error 47"}, {"need f 1 x", "need f error 47"},
	} {
		want := append(append(append([]string{}, told...), c.want), behind...)
		checkTells(t, "24.3: "+c.script, lays+c.script+"\nprint a\nlink c = a\nprint f\nlink d = f\n", want...)
	}
	// Nor does it lay anything where nothing was.
	for _, c := range []struct{ script, want string }{
		{"program n\nx\nend", "program n error 55 line 1"}, {"source n\nx\nend", "source n error 150 line 1"}, {"load n #", "load n error 40 at 0"}, {"link n = a a", "link n error 171 at 1"}, {"trim n = f", "trim n error 160"},
	} {
		want := append(append([]string{}, told...), c.want, "error 53", "error 53")
		checkTells(t, "24.3: "+c.script, lays+c.script+"\nprint n\nlink m = n\n", want...)
	}
}
