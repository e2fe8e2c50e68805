package shell_test

import (
	"fmt"
	"math/rand/v2"
	"strings"
	"testing"

	"paddock/shell"
)

// dice makes scripts, the same in each run of the tests.
type dice struct{ *rand.Rand }

func rolled(seed uint64) dice { return dice{rand.New(rand.NewPCG(seed, 24))} }

// of is one of a list.
func of[T any](d dice, l ...T) T { return l[d.IntN(len(l))] }

func (d dice) oneIn(n int) bool { return d.IntN(n) == 0 }

func (d dice) name() string {
	if d.oneIn(5) {
		return of(d, "c", "fuel", "end", "run", "A", "nobody", "abcdefghijklmnop")
	}
	return of(d, "a", "a", "b")
}

func (d dice) gate() string {
	return of(d, "0", "0", "0", "0", "1", "1", "2", "3", "00", "01", "15", "16", "2147483647")
}

func (d dice) number() string {
	return of(d, "0", "1", "2", "3", "7", "41", "007", "9999", "4294967296", "18446744073709551615", "00000000000000000005")
}

func (d dice) numbers() string {
	l := ""
	for range of(d, 0, 0, 1, 1, 2, 3, 7, 8) {
		l += " " + d.number()
	}
	return l
}

func (d dice) fuel() string {
	return of(d, "0", "1", "2", "3", "4", "5", "7", "9", "20", "99", "1000", "2147483647")
}

func (d dice) text() string {
	text := rows(of(d, append(texts()[:8], echo, kept, three, tells(3), "depth 1; comp; in r1; glt r1 3 9; out r1; jmp 0; gate g 0 0 ->", corner(reasons()[1+d.IntN(15)][2:]), corner(reasons()[1+d.IntN(15)][2:]))...))
	if d.oneIn(6) {
		text = d.turned(text)
	}
	return text
}

func (d dice) source() string {
	text := rows(of(d, squares, "comp c { fn f(x) { out x return x + in } }", "bytes b 20; comp one uses b { fn f(x) { b[x] = x if x > 3 { trap 9 } need x 1 } }", "comp c { fn f() { let x = g() return x } fn g() { let y = f() return y } }"))
	if d.oneIn(4) {
		text = d.turned(text)
	}
	return text
}

// turned is a text with a byte taken out, put in, or changed.
func (d dice) turned(text string) string {
	k := d.IntN(len(text))
	rest := text[k+d.IntN(2):]
	return text[:k] + of(d, "", "", ";", " ", "\n", "x", "0", "9", "$", "\r", "\x00", "#", ":", "=", "end", "\nend\n", "\xff") + rest
}

// line is a command that may be, with its block.
func (d dice) line() string {
	n, a, b, g := d.name(), d.name(), d.name(), d.gate()
	runs := a + " " + g + of(d, d.numbers(), "", " 5") + " :" + d.numbers() + " fuel " + d.fuel()
	switch d.IntN(24) {
	case 0, 1, 2, 3:
		return "program " + n + "\n" + d.text() + "end"
	case 4, 5:
		return "source " + n + "\n" + d.source() + "end"
	case 6:
		return "load " + n + " " + of(d, "#", "#00", "#504144444b31", "#504144444b310100010100010020000000000000000000000000", "#504144444b310100010100010020000000000000000000000001", "#504144444b31010001010001001d010000000000000100000000000000")
	case 7:
		return "name " + a + " " + g + " " + of(d, "t", "t", "u", "end")
	case 8:
		return "need " + a + " " + g + " " + of(d, "t", "t", "u", "end")
	case 9:
		return "need " + a + " " + g + " t\nname " + b + " " + d.gate() + " t\nlink " + n + " = " + a + " " + b
	case 10:
		return "link " + n + " = " + a + of(d, "", " "+b, " "+b, " "+b+" "+d.name(), " "+b+" "+b+" "+d.name())
	case 11:
		return "trim " + n + " = " + a
	case 12:
		return "print " + a
	case 13:
		return "bytes " + a
	case 14:
		return "check " + a
	case 15:
		return "cost " + a + " " + g
	case 16:
		return "grant " + a + " " + g
	case 17:
		return "cert " + a
	case 18, 19:
		return "run " + runs
	case 20, 21:
		return "slow " + runs
	case 22:
		return "back " + runs + " at " + of(d, "0", "1", "2", "3", "5", "9", "99", "2147483647")
	}
	return of(d, "", ";", "\t", " ;end", "end", "x", ": =", "a-b", "2147483648", "#0a", "Run a")
}

// wrong turns a line a little, most often by a token of its first line.
func (d dice) wrong(line string) string {
	if line == "" || d.oneIn(8) {
		return d.turned(line + " ")
	}
	first, rest, _ := strings.Cut(line, "\n")
	tokens := strings.Fields(first)
	if len(tokens) == 0 {
		return line
	}
	k := d.IntN(len(tokens))
	tokens[k] = of(d, "", "a", "a1234567890123456", "2147483648", "18446744073709551616", "999999999999999999999", "x-y", ":", "=", "#", "#0", "#00", tokens[k]+" "+tokens[k], tokens[k]+":", ";"+tokens[k], tokens[k]+";", "A", "nobody", "fuel", "at", strings.ToUpper(tokens[k]), "0"+tokens[k])
	if rest != "" {
		rest = "\n" + rest
	}
	return strings.Join(tokens, of(d, " ", " ", "\t", "  ")) + rest
}

func (d dice) script() string {
	s := "program a\n" + d.text() + "end\n"
	for range 2 + d.IntN(20) {
		line := d.line()
		if d.oneIn(6) {
			line = d.wrong(line)
		}
		s += of(d, "", "", "", " ", "\t") + line + of(d, "", "", "", " ", ";", " ; end", "\t;program a") + "\n" + of(d, "", "", "", "\n", " \t\n", ";x\n")
	}
	if d.oneIn(3) {
		s = strings.TrimSuffix(s, "\n")
	}
	return s
}

// kindOf is the kind of what a line tells: its first word, and how it went.
func kindOf(line string) string {
	words := strings.Fields(line)
	switch {
	case line == "" || strings.HasPrefix(line, "  ") || len(words) < 2:
		return ""
	case words[0] == "error":
		return line
	}
	for k, w := range words {
		if w == "error" || w == "refused" {
			return words[0] + " " + w + " " + words[k+1]
		}
		if strings.Contains(" ok taken unknown halted guarded trapped spent overflow starved faulted ", " "+w+" ") && k > 1 {
			return words[0] + " " + w
		}
	}
	return words[0]
}

// TestAgainstModel: many scripts, each told as the model tells it.
func TestAgainstModel(t *testing.T) {
	seen := map[string]int{}
	for n := range 6000 {
		script := rolled(uint64(n)).script()
		got, want := shell.Do(script), model(script)
		if got != want {
			t.Fatalf("24: of the script %d\n%s\nis told\n%s\nwant\n%s\n%s", n, script, got, want, firstUnlike(got, want))
		}
		for line := range strings.Lines(got) {
			seen[kindOf(strings.TrimSuffix(line, "\n"))]++
		}
	}
	for _, kind := range strings.Split("error 51,error 52,error 53,error 55,program ok,program error 42,program error 51,program error 53,program error 55,source ok,source error 150,source error 153,load ok,load error 40,load error 41,load error 49,name ok,name error 47,need ok,need error 47,link ok,link error 42,link error 43,link error 170,link error 171,link error 172,trim ok,trim error 160,bytes,check taken,check refused 1,check refused 2,check refused 5,check refused 15,cost,cost unknown,grant,cert,cert error 160,run halted,run guarded,run trapped,run spent,run overflow,run starved,run error 160,run error 70,run error 71,slow halted,slow spent,slow starved,slow faulted,slow overflow,slow error 70,slow error 71,back,back error 160,back error 70,back error 71,back error 210", ",") {
		if seen[kind] < 3 {
			t.Errorf("the dice came to %q %d times", kind, seen[kind])
		}
	}
}

// TestAnyBytes: whatever is handed in, something is told, and it ends.
func TestAnyBytes(t *testing.T) {
	for n := range 3000 {
		d := rolled(uint64(1000000 + n))
		script := ""
		for range d.IntN(60) {
			script += of(d, "a", "b", " ", "\n", "\n", ";", ":", "=", "#", "0", "17", "program ", "source ", "end\n", "check a\n", "run a 0 :", " fuel 9", " at 1", "link ", "load a #", "\x00", "\xff", "\r", "ä", "\t", "-", "_", string([]byte{byte(d.IntN(256))}), fmt.Sprint(d.Uint64()))
		}
		checkModel(t, "24.1", script)
	}
}
