package shell_test

import (
	"fmt"
	"slices"
	"strings"
	"testing"

	"paddock/shell"
)

// commandLines are all commands, as they may be, where a and b are at hand. Those with a block have it behind them.
func commandLines() []string {
	return []string{
		"program n", "source n", "load n #", "load n #00ff", "name a 0 w", "need a 0 w", "link n = a", "link n = a b", "trim n = a", "print a", "bytes a", "check a", "cost a 0", "grant a 0", "cert a",
		"run a 0 : fuel 9", "run a 0 1 : fuel 9", "run a 0 : 1 2 fuel 9", "run a 0 1 2 : 3 fuel 9",
		"slow a 0 : fuel 9", "slow a 0 1 : fuel 9", "slow a 0 : 1 2 fuel 9", "slow a 0 1 2 : 3 fuel 9",
		"back a 0 : fuel 9 at 1", "back a 0 1 : fuel 9 at 1", "back a 0 : 1 2 fuel 9 at 1", "back a 0 1 2 : 3 fuel 9 at 1",
	}
}

func withBlock(line string) string {
	if strings.HasPrefix(line, "program") || strings.HasPrefix(line, "source") {
		return line + "\nx\nend\n"
	}
	return line + "\n"
}

// two are programs at hand.
var two = program("a", adder) + program("b", twice)

const twoOK = "program a ok\nprogram b ok\n"

func TestCommandsMayBe(t *testing.T) {
	for _, line := range commandLines() {
		got := shellLine(withBlock(line))
		if !strings.HasPrefix(got, strings.Join(strings.Fields(line)[:2], " ")+" ") && got != "program a" {
			t.Errorf("24.2: %s tells %s", line, got)
		}
		checkModel(t, "24.2", two+withBlock(line))
		// Blanks are no part of a form.
		checkModel(t, "24.2", two+withBlock("\t "+strings.ReplaceAll(line, " ", " \t")+" "))
	}
}

// shellLine is the first line of what is told of a script, with two programs at hand.
func shellLine(script string) string {
	told, _ := strings.CutPrefix(modelAndShell(two+script), twoOK)
	line, _, _ := strings.Cut(told, "\n")
	return line
}

// modelAndShell is what both tell; if they tell other things: that.
func modelAndShell(script string) string {
	got, want := shell.Do(script), model(script)
	if got != want {
		return "(unlike the model) " + got
	}
	return got
}

// TestOneTokenWrong: too few, too many, of another kind, and in another place.
func TestOneTokenWrong(t *testing.T) {
	seen := map[string]int{}
	try := func(tokens []string) {
		line := strings.Join(tokens, " ")
		if len(tokens) == 0 {
			return
		}
		seen[shellLine(withBlock(line))]++
		checkModel(t, "24.2: "+line, two+withBlock(line))
	}
	for _, line := range commandLines() {
		tokens := strings.Fields(line)
		for k := range tokens {
			try(slices.Delete(slices.Clone(tokens), k, k+1))
			try(tokens[:k])
			for j := range tokens {
				moved := slices.Delete(slices.Clone(tokens), k, k+1)
				try(slices.Insert(moved, j, tokens[k]))
			}
		}
		for _, other := range []string{"a", "b", "zz", "0", "7", "#", "#00", ":", "=", "fuel", "at", "end", "a-b", ";"} {
			for k := range len(tokens) + 1 {
				try(slices.Insert(slices.Clone(tokens), k, other))
				if k < len(tokens) {
					l := slices.Clone(tokens)
					l[k] = other
					try(l)
				}
			}
		}
	}
	for _, want := range []string{"error 55", "error 51", "error 53"} {
		if seen[want] < 100 {
			t.Errorf("24.2: %s was told %d times alone", want, seen[want])
		}
	}
}

// TestFormsThatAreNot: each by itself.
func TestFormsThatAreNot(t *testing.T) {
	for _, line := range strings.Split(`program;program a b;program 1;program = a;source;source a b;source #;load a;load #;load a # #;load a 0;load a = #;load # a
name a 0;name a w;name a 0 w w;name 0 a w;name a w 0;name a 0 0;name a 0 = w;name a : w;need a 0;need a w;need a 0 w w;need a 0 0;need a w 0
link;link n;link n =;link n a;link = a;link n = =;link n = a =;link n = a 1;link n = 1;link n = # a;link n : a;link n = a : b;link n a = b;link n = a = b;link 1 = a
trim n;trim n =;trim n a;trim n = a b;trim n = 1;trim = a;trim n : a;trim 1 = a;print;print a b;print 1;print a 0;bytes;bytes a b;bytes #;check;check a b;check a 0;check :
cost a;cost a b;cost 0 a;cost a 0 0;cost a #00;cost;grant a;grant a b;grant a 0 0;grant 0;cert;cert a b;cert a 0
run;run a;run a 0;run a 0 :;run a 0 : fuel;run a : fuel 9;run a 0 fuel 9;run 0 : fuel 9;run a 0 : fuel 9 at 1;run a 0 : fuel 9 9;run a 0 : : fuel 9;run a 0 : 1 : fuel 9;run a 0 = fuel 9;run a 0 : fuel a;run a 0 : fuel #
run a 0 : Fuel 9;run a 0 : fuels 9;run a 0 : 9 fuel;run a 0 : a fuel 9;run a 0 a : fuel 9;run a a : fuel 9;run a 0 : 9;run a 0 : fuel 9 fuel 9;run a 0 : at 9;run a 0 : # fuel 9;run a b 0 : fuel 9
slow;slow a 0 :;slow a : fuel 9;slow a 0 fuel 9;slow a 0 : fuel;slow a 0 : fuel 9 at 1;slow a 0 : fuel 9 9;slow a 0 : FUEL 9
back a 0 : fuel 9;back a 0 : fuel 9 at;back a 0 : fuel 9 at a;back a 0 : fuel 9 at 1 1;back a 0 : fuel at 1;back a 0 : at 1 fuel 9;back a 0 : fuel 9 1;back a 0 at 1;back a 0 : fuel 9 At 1;back a 0 : fuel 9 at 1 at 1;back a 0 : fuel 9 fuel 1;back a 0 at 1 : fuel 9;back : fuel 9 at 1
runs a 0 : fuel 9;x;a;end;fuel 9;at 1;at;:;=;#;#00;0;7 a;: a;= a;Print a;PRINT a;pRint a;Run a 0 : fuel 9;RUN a 0 : fuel 9;prints a;prin a;check_ a;int;names a 0 w;do a;quit;help;list;show a;end a`, "\n") {
		for _, line := range strings.Split(line, ";") {
			checkText(t, "24.2: "+line, two+withBlock(line), twoOK+"error 55\n")
			// What is nothing at hand is asked of forms alone.
			checkText(t, "24.2: "+line, withBlock(line), "error 55\n")
		}
	}
}

// TestSignsNextToOthers: without a blank they are no tokens of their own.
func TestSignsNextToOthers(t *testing.T) {
	for _, line := range strings.Split("link n= a;link n =a;link n=a;link n = a=;trim n= a;trim n =a;trim n=a;run a 0: fuel 9;run a 0 :fuel 9;run a 0 :1 fuel 9;run a 0 1: fuel 9;run a 0 :: fuel 9;link n == a;run a 0 := fuel 9;back a 0 : fuel 9 at1:;slow a 0: fuel 9;:a;=a;a:;print a:;print a=;load a =#;load a # :#;::;==;:=", ";") {
		checkText(t, "24.1: "+line, two+withBlock(line), twoOK+"error 51\n")
	}
}

func TestNames(t *testing.T) {
	for _, name := range []string{"a", "Z", "z9", "a_", "A_9_z", "abcdefghijklmnop", "ABCDEFGHIJKLMNOP", "a123456789012345", "a_______________", "end", "fuel", "at", "run", "program", "source", "r1", "int", "cap", "xF"} {
		checkTells(t, "24.1: the NAME "+name, program(name, adder)+rows("check "+name, "need "+name+" 0 "+name, "name "+name+" 0 "+name, "trim "+name+" = "+name, "check a0"),
			"program "+name+" ok", "check "+name+" taken 3", "need "+name+" ok", "name "+name+" ok", "trim "+name+" ok", "error 53")
	}
	for _, name := range []string{"abcdefghijklmnopq", "ABCDEFGHIJKLMNOPQ", "a1234567890123456", times("a", 100), times("a", 1000), "1a", "9_", "0x1", "_", "_a", "__", "a-b", "a.b", "a/b", "a$", "$a", "ä", "aä", "a\x80", "é", "a'", "(a)", "a,b", "-a", "+a", "a+", "a*", "&", "@a", "`a", "[a]", "{a}", "^", "a\\", "~", "a!", "?", "<", ">", "|", "a\x7f", "a\x00"} {
		checkTells(t, "24.1: no NAME: "+name, withBlock("program "+name), "error 51")
		checkTells(t, "24.1: no NAME: "+name, withBlock("check "+name), "error 51")
		checkTells(t, "24.1: no NAME: "+name, withBlock(name+" a"), "error 51")
	}
	// Capital letters are others.
	checkTells(t, "24.1: capital letters", program("a", adder)+program("A", faulty)+rows("check a", "check A", "check b", "check B"), "program a ok", "program A ok", "check a taken 3", "check A refused 2 gate 0 at 0 after 1", "error 53", "error 53")
}

func TestNumbers(t *testing.T) {
	lays := program("a", adder)
	for _, c := range []struct{ number, want string }{
		{"0", "cost a 0 3 0 1"}, {"00", "cost a 0 3 0 1"}, {"00000000000000000000", "cost a 0 3 0 1"}, {"1", "cost a 1 unknown"}, {"01", "cost a 1 unknown"}, {"00000000000000000001", "cost a 1 unknown"}, {"010", "cost a 10 unknown"}, {"08", "cost a 8 unknown"},
		{"2147483647", "cost a 2147483647 unknown"}, {"00000000002147483647", "cost a 2147483647 unknown"}, {"2147483646", "cost a 2147483646 unknown"},
		{"2147483648", "error 52"}, {"0000000002147483648", "error 52"}, {"4294967295", "error 52"}, {"4294967296", "error 52"}, {"4294967297", "error 52"}, {"9223372036854775807", "error 52"}, {"9223372036854775808", "error 52"}, {"18446744073709551615", "error 52"}, {"18446744073709551616", "error 52"}, {"18446744073709551617", "error 52"}, {"99999999999999999999", "error 52"},
		{"000000000000000000000", "error 51"}, {"000000000000000000001", "error 51"}, {"100000000000000000000", "error 51"}, {"999999999999999999999", "error 51"}, {times("0", 100), "error 51"}, {times("9", 1000), "error 51"},
		{"-1", "error 51"}, {"+1", "error 51"}, {"-0", "error 51"}, {"0x1", "error 51"}, {"1_0", "error 51"}, {"1e3", "error 51"}, {"1.0", "error 51"}, {"1,", "error 51"}, {"٣", "error 51"}, {"1a", "error 51"}, {"0b1", "error 51"}, {"1:", "error 51"},
		{"a", "error 55"}, {"#1f", "error 55"}, {"#00", "error 55"},
	} {
		checkTells(t, "24.1: the NUMBER "+c.number, lays+"cost a "+c.number, "program a ok", c.want)
	}
	for _, c := range []struct{ number, want string }{
		{"0", "0"}, {"007", "7"}, {"2147483648", "2147483648"}, {"9223372036854775808", "9223372036854775808"}, {"18446744073709551615", "18446744073709551615"}, {"00000000000000000009", "9"},
		{"18446744073709551616", ""}, {"18446744073709551617", ""}, {"99999999999999999999", ""}, {"36893488147419103232", ""},
	} {
		lays := program("p", "depth 1; comp; L0:; in r2; out r1; out r2; ret; gate G0 0 L0 int ->")
		l := []string{"program p ok", "run p 0 halted 0 0 gate 0 at 3", "  out " + c.want + " 7", "run p 0 halted 0 0 gate 0 at 3", "  out 7 " + c.want}
		if c.want == "" {
			l = []string{"program p ok", "error 52", "error 52"}
		}
		checkTells(t, "24.2: the V "+c.number, lays+rows("run p 0 "+c.number+" : 7 fuel 9", "run p 0 7 : "+c.number+" fuel 9"), l...)
	}
}

// TestGreatestNumbers: each place by itself.
func TestGreatestNumbers(t *testing.T) {
	for _, form := range []string{"name a %s w", "need a %s w", "cost a %s", "grant a %s", "run a %s : fuel 9", "run a 0 : fuel %s", "slow a %s : fuel 9", "slow a 0 : fuel %s", "back a %s : fuel 9 at 0", "back a 0 : fuel %s at 0", "back a 0 : fuel 9 at %s"} {
		if got := shellLine(fmt.Sprintf(form, "2147483647")); got == "error 52" || got == "" || strings.HasPrefix(got, "(") {
			t.Errorf("24.2: %s with the greatest number: %s", form, got)
		}
		for _, n := range []string{"2147483648", "4294967296", "18446744073709551616", "99999999999999999999"} {
			checkText(t, "24.2: "+form, two+fmt.Sprintf(form, n), twoOK+"error 52\n")
		}
	}
	for _, form := range []string{"run a 0 %s : fuel 9", "run a 0 : %s fuel 9", "run a 0 1 %s 2 : fuel 9", "slow a 0 %s : fuel 9", "slow a 0 : 1 %s fuel 9", "back a 0 %s : fuel 9 at 0", "back a 0 : 1 2 %s fuel 9 at 0"} {
		if got := shellLine(fmt.Sprintf(form, "18446744073709551615")); got == "error 52" || got == "" || strings.HasPrefix(got, "(") {
			t.Errorf("24.2: %s with the greatest number: %s", form, got)
		}
		for _, n := range []string{"18446744073709551616", "99999999999999999999"} {
			checkText(t, "24.2: "+form, two+fmt.Sprintf(form, n), twoOK+"error 52\n")
		}
	}
}

func TestData(t *testing.T) {
	for _, c := range []struct{ data, want string }{
		{"#", "load n error 40 at 0"}, {"#00", "load n error 40 at 0"}, {"#0123456789abcdef", "load n error 40 at 0"}, {"#504144444b31", "load n error 41 at 6"}, {"#" + times("ab", 5000), "load n error 40 at 0"},
		{"#0", "error 51"}, {"#000", "error 51"}, {"#0A", "error 51"}, {"#AB", "error 51"}, {"#aF", "error 51"}, {"#0g", "error 51"}, {"#g0", "error 51"}, {"##", "error 51"}, {"#00#", "error 51"}, {"#-1", "error 51"}, {"#0x00", "error 51"}, {"#_0", "error 51"}, {"00#", "error 51"}, {"#00:", "error 51"}, {"#:", "error 51"}, {"#ä", "error 51"}, {"#\x80\x80", "error 51"},
		{"# 00", wrong}, {"0000", wrong}, {"abcd", wrong},
	} {
		checkTells(t, "24.1: the DATA "+c.data, "load n "+c.data, c.want)
	}
}

// TestErrorsInTheirOrder: 51, 55, 52, 53, each by itself, and two, three and all at once.
func TestErrorsInTheirOrder(t *testing.T) {
	kinds := []struct {
		number int
		turn   func(line string) string
	}{
		{51, func(line string) string { return strings.Replace(line, "7", "a-b 7", 1) }},
		{55, func(line string) string { return line + " 5" }},
		{52, func(line string) string { return strings.Replace(line, "8", "18446744073709551616", 1) }},
		{53, func(line string) string { return strings.Replace(line, "a", "nobody", 1) }},
	}
	// `back` has an a in its name; the others a number that may be too great, too.
	for _, right := range []string{"run a 0 7 : 8 fuel 9", "slow a 0 7 : 8 fuel 9", "run a 8 7 : fuel 9", "run a 0 7 : fuel 8", "slow a 8 7 : fuel 1", "slow a 0 7 8 : fuel 1"} {
		for set := range 1 << len(kinds) {
			line, want := right, 0
			for k, kind := range kinds {
				if set>>k&1 == 1 {
					line = kind.turn(line)
				}
				if set>>k&1 == 1 && want == 0 {
					want = kind.number
				}
			}
			if want != 0 {
				checkText(t, fmt.Sprintf("24.2: the errors %04b", set), two+line, fmt.Sprintf("%serror %d\n", twoOK, want))
			}
		}
	}
	for _, c := range []struct {
		line string
		want int
	}{
		{"cost c 2147483648", 52}, {"cost c 0", 53}, {"cost c-d 2147483648", 51}, {"cost 2147483648 c", 55}, {"grant c 2147483648", 52},
		{"name c 2147483648 w", 52}, {"need c 2147483648 w", 52}, {"name c 0 w", 53}, {"need c 0 w", 53}, {"name a 2147483648 w", 52}, {"name a 2147483648 w w", 55},
		{"run c 2147483648 : fuel 9", 52}, {"run c 0 : fuel 2147483648", 52}, {"back c 0 : fuel 9 at 2147483648", 52}, {"back c 0 : 18446744073709551616 fuel 9 at 1", 52}, {"back c 0 18446744073709551616 : fuel 9 at 1", 52},
		{"back a 0 : fuel 9 at 2147483648 x", 55}, {"back c 0 : fuel 9 at 1", 53}, {"slow c 0 : fuel 9", 53}, {"link n = c", 53}, {"link n = a c", 53}, {"link n = c a", 53}, {"link n = a b c a", 53}, {"link n = n", 53}, {"link n = a c-", 51}, {"link n = c 99999999999999999999", 55},
		{"trim n = c", 53}, {"trim c = c", 53}, {"trim n = n", 53}, {"print c", 53}, {"bytes c", 53}, {"check c", 53}, {"cert c", 53}, {"cert c c", 55}, {"x 99999999999999999999", 55}, {"x 999999999999999999999", 51}, {"x c", 55}, {"x c-d", 51}, {"X :=", 51},
	} {
		checkText(t, "24.2: "+c.line, two+c.line, fmt.Sprintf("%serror %d\n", twoOK, c.want))
	}
	checkTells(t, "24.2: what is wrong does nothing", two+"trim a = c\nlink a = a c\nname a 0 w w\nneed a 2147483648 w\nload a #0\nprogram a a\nx\nend\nsource a-\nx\nend\nprint a\n",
		"program a ok", "program b ok", "error 53", "error 53", "error 55", "error 52", "error 51", "error 55", "error 51", "program a", adder, "end")
}
