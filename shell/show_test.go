package shell_test

import (
	"fmt"
	"strings"
	"testing"

	"paddock/api"
	"paddock/image"
	"paddock/link"
	"paddock/shell"
)

// TestPrint: of what each of the five commands laid.
func TestPrint(t *testing.T) {
	folded := "depth 1\ncomp\nL0:\n  add r1 r1 r1\n  ret\ngate G0 0 L0 int -> int\n"
	for _, c := range []struct{ lays, told, text string }{
		{program("p", adder), "program p ok", adder},
		{program("p", "depth 01 ;once; comp; start: in r1; end_: addi r1 r1 0x1; halt r1; gate main 0 start ->"), "program p ok", adder},
		{source("p", "comp c { fn f() { trap 3 } }"), "source p ok", ""},
		{"load p " + data(bytesOf(t, memory)) + "\n", "load p ok", memory},
		{"load a " + data(bytesOf(t, twice)) + "\nlink p = a\n", "load a ok; link p ok", twice},
		{"load a " + data(bytesOf(t, twice)) + "\ntrim p = a\n", "load a ok; trim p ok", folded},
		{program("p", adder) + "name p 0 named\nneed p 0 needed\n", "program p ok; name p ok; need p ok", adder},
	} {
		if c.text == "" {
			checkModel(t, "24.6", c.lays+"print p")
			continue
		}
		checkTells(t, "24.6", c.lays+"print p\nprint p", c.told, "program p", c.text, "end", "program p", c.text, "end")
	}
	// Under the name that is asked for, whatever it had at first.
	checkTells(t, "24.6", program("first", adder)+"link second = first\nprint second", "program first ok", "link second ok", "program second", adder, "end")
}

func TestBytes(t *testing.T) {
	checkTells(t, "24.6", "load p #504144444b310100010100010020000000000000000000000000\nbytes p", "load p ok", "bytes p 26", "  504144444b310100010100010020000000000000000000000000")
	all := func(n int) string {
		b := ""
		for k := range n {
			b += fmt.Sprintf("%02x", k*37%256)
		}
		return strings.TrimSuffix(strings.ReplaceAll(b, " ", ""), "00")
	}
	for _, lays := range []string{
		program("p", adder), source("p", squares), "load p " + data(bytesOf(t, memory)) + "\n", program("a", memory) + "link p = a\n", program("a", memory) + "trim p = a\n",
		program("p", "depth 1; region 0 256 bytes #"+all(255)+"; comp; ret; gate g 0 0 ->"),
	} {
		checkModel(t, "24.6", lays+"bytes p\n")
		// The rows behind one another are what `load` takes.
		l := strings.Split(strings.TrimSuffix(shell.Do(lays+"bytes p\n"), "\n"), "\n")
		first := 0
		for !strings.HasPrefix(l[first], "bytes p ") {
			first++
		}
		b := strings.Join(strings.Fields(strings.Join(l[first+1:], " ")), "")
		if l[first] != fmt.Sprintf("bytes p %d", len(b)/2) {
			t.Errorf("24.6: %s, and %d digits", l[first], len(b))
		}
		for _, row := range l[first+1 : len(l)-1] {
			if len(row) != 2+64 {
				t.Errorf("24.6: a row of %d bytes: %s", len(row), row)
			}
		}
		text := shell.Do(lays + "print p\n")
		text = text[strings.Index(text, "program p\n"):]
		checkText(t, "24.6: loaded again", "load p #"+b+"\nprint p", "load p ok\n"+text)
	}
}

// TestRowsOfBytes: less than a row, just full ones, and one byte more.
func TestRowsOfBytes(t *testing.T) {
	for ints := range 15 {
		for code := range 9 {
			n := 26 + ints + 8*code
			text := "depth 1; comp" + times("; ret", code+1) + "; gate g 0 0" + times(" int", min(ints, 7)) + " ->" + times(" int", max(ints-7, 0))
			told := shell.Do(program("p", text) + "bytes p")
			l := strings.Split(strings.TrimSuffix(told, "\n"), "\n")[1:]
			if l[0] != fmt.Sprintf("bytes p %d", n) || len(l)-1 != (n+31)/32 || len(l[len(l)-1]) != 2+2*((n-1)%32+1) {
				t.Errorf("24.6: %d bytes:\n%s", n, told)
			}
			checkModel(t, "24.6", program("p", text)+"bytes p")
		}
	}
}

// longText is a script that lays a program w, of which the text is longer than one may be.
func longText(t *testing.T) string {
	types := times(" cap 4294967295 4294967296 18446744073709551615 18446744073709551615 rwcdsu 15", 7)
	text := "depth 1; comp" + times("; addi r15 r15 -2147483648", 400)
	for g := range 4 {
		text += fmt.Sprintf("; gate g%d 0 0%s ->%s", g, types, types)
	}
	return "load a " + data(bytesOf(t, text)) + "\nlink w = a a a a\n"
}

func TestTooLongToPrint(t *testing.T) {
	lays := longText(t)
	checkTells(t, "24.6: Print's error", lays+"print w\nprint a", append([]string{"load a ok", "link w ok", "print w error 50"}, strings.TrimPrefix(shell.Do(strings.SplitAfter(lays, "\n")[0]+"print a"), "load a ok\n"))...)
	checkModel(t, "24.6", lays+"bytes w\ncheck w\n")
}

// manyBytes is a script that lays a program w, which has more bytes than an image may have.
func manyBytes(t *testing.T) string {
	slots := "depth 1; region 0 9280 slots" + times("; slot cap 0 0 0 0 - 0 at 0", 580) + "; comp; ret; gate g 0 0 ->"
	code := "depth 1; comp; li r1 7; halt r1" + times("; ret", 398) + "; gate g 0 0 ->"
	for k := range 4 {
		types := times(" cap 0 0 0 0 - 0", 7)
		code += fmt.Sprintf("; gate h%d 0 2%s ->%s", k, types, types)
	}
	n := api.Module{Image: parse(t, code), Names: make([]string, 5)}
	x, e, _ := link.Link(api.Module{Image: parse(t, slots), Names: []string{""}}, n, n, n)
	if _, f := image.Encode(x.Image); e != api.OK || f != api.ErrCount {
		t.Fatalf("Link: %d, Encode: %d", e, f)
	}
	return program("s", slots) + program("c", code) + "link w = s c c c\n"
}

// TestTooManyBytes: such a program is checked, and run, all the same.
func TestTooManyBytes(t *testing.T) {
	lays := manyBytes(t)
	if len(lays) > api.MaxScript-200 {
		t.Fatalf("a script of %d bytes", len(lays))
	}
	checkBehind(t, "24.6: Encode's error", lays, "bytes w\ncheck w\nrun w 1 : fuel 9\nslow w 1 : fuel 9\nrun w 2 : fuel 9\nslow w 2 : fuel 9\nrun w 16 : fuel 9\nrun w 1 1 : fuel 9\nback w 6 : fuel 9 at 1\ncert w\ncost w 1",
		"bytes w error 42", "check w taken 19", "run w 1 halted 7 0 gate 1 at 1", "  out", "slow w 1 halted 7 0 gate 1 at 1", "  out", "run w 2 error 70", "slow w 2 error 70", "run w 16 error 70", "run w 1 error 71",
		"back w 6 1 gate 6 at 1 deep 0", "  0 7 0 0 0 0 0 0 0 0 0 0 0 0 0 0", "cert w 39", "cost w 1 2 0 0")
}
