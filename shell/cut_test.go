package shell_test

import (
	"fmt"
	"strings"
	"testing"

	"paddock/api"
	"paddock/shell"
)

// saying is a script, and what it would tell, if there were room.
type saying struct{ script, told string }

func (s saying) with(script, told string) saying {
	return saying{s.script + script, s.told + told}
}

// echo is a program that puts out its inputs.
const echo = "depth 1\ncomp\nL0:\n  in r1\n  out r1\n  jmp L0\ngate G0 0 L0 ->\n"

// putOut is a command that tells two lines, the second one of n bytes.
func putOut(n int) (string, string) {
	n -= len("  out\n")
	inputs := times(" 1", n/2)
	if n%2 == 1 {
		inputs = times(" 1", n/2-1) + " 10"
	}
	return "run e 0 :" + inputs + " fuel 100000\n", "run e 0 starved 0 0 gate 0 at 0\n  out" + inputs + "\n"
}

// filled tells just n bytes, with some last lines.
func filled(t *testing.T, n int, script string, told string) saying {
	t.Helper()
	big := program("a", "depth 1\nregion 0 4096 bytes #"+times("0a", 2500)+"\ncomp\nL0:\n  trap 1\ngate G0 0 L0 ->\n")
	s := saying{big + program("e", echo), "program a ok\nprogram e ok\n"}
	for len(s.told)+len(big)+len(told)+100 < n {
		s = s.with("print a\n", big)
	}
	s = s.with(putOut(n - len(s.told) - len(told) - len("run e 0 starved 0 0 gate 0 at 0\n")))
	s = s.with(script, told)
	if len(s.told) != n || len(s.script) > api.MaxScript {
		t.Fatalf("%d bytes are told, want %d; a script of %d bytes", len(s.told), n, len(s.script))
	}
	return s
}

// checkCut asks for all of it, or for as much as there is room for.
func checkCut(t *testing.T, what string, s saying) {
	t.Helper()
	want := s.told
	if len(s.told) > api.MaxAnswer {
		want = ""
		for line := range strings.Lines(s.told) {
			if len(want)+len(line)+len("cut\n") > api.MaxAnswer {
				break
			}
			want += line
		}
		want += "cut\n"
	}
	got := shell.Do(s.script)
	if got != want {
		t.Errorf("24.10: %s: %d bytes, of %d: the end %q, want %d with the end %q", what, len(got), len(s.told), got[max(0, len(got)-60):], len(want), want[max(0, len(want)-60):])
	}
	if len(got) > api.MaxAnswer || strings.HasSuffix(got, "\ncut\n") != (len(s.told) > api.MaxAnswer) {
		t.Errorf("24.10: %s: %d bytes, with the end %q", what, len(got), got[max(0, len(got)-60):])
	}
	if model(s.script) != want {
		t.Errorf("24.10: %s: the model tells other lines", what)
	}
}

// TestJustFull: just reached, just passed, with last lines of several lengths.
func TestJustFull(t *testing.T) {
	long := func(n int) [2]string {
		script, told := putOut(n)
		return [2]string{script, told}
	}
	for k, last := range [][2]string{
		{"", ""}, {"x\n", "error 55\n"}, {times("x\n", 5), times("error 55\n", 5)}, {"cost a 1\n", "cost a 1 unknown\n"}, {"cost a 1\nx\n", "cost a 1 unknown\nerror 55\n"},
		long(6), long(8), long(9), long(100), long(3000), {"grant a 0\n", "grant a 0 1\n  1048576 1048584 1048576 16 0\n"}, {"bytes a\nx\n", ""},
	} {
		if last[0] == "bytes a\nx\n" {
			last[1] = strings.TrimPrefix(shell.Do(filled(t, 10000, "", "").script+last[0]), filled(t, 10000, "", "").told)
		}
		for more := -6; more < 22; more++ {
			checkCut(t, fmt.Sprintf("the last lines %d, and %d bytes more than there is room for", k, more), filled(t, api.MaxAnswer+more, last[0], last[1]))
		}
	}
}

// TestCutAnywhere: as many lines as leave room, by one byte and another.
func TestCutAnywhere(t *testing.T) {
	for n := 0; n < 40; n++ {
		s := filled(t, api.MaxAnswer-20+n, "", "")
		for range 3 {
			s = s.with("x\n", "error 55\n")
			checkCut(t, fmt.Sprintf("short lines behind %d", n), s)
		}
		s = filled(t, api.MaxAnswer-20+n, "", "").with(putOut(5000))
		checkCut(t, fmt.Sprintf("a long line behind %d", n), s)
	}
	// What is cut once stays so, whatever comes behind: a command that is wrong, one too many, a block.
	for _, more := range []string{"x\n", times("x\n", 64), "a-b\n", "program b\n" + adder + "end\n", "program b\n", "end", times("print a\n", 20), "load a #\n", times(";", 1000)} {
		s := filled(t, api.MaxAnswer+1, "", "")
		if got, want := shell.Do(s.script+more), shell.Do(s.script); got != want || !strings.HasSuffix(want, "\ncut\n") {
			t.Errorf("24.10: with %q behind it: another answer", short(more))
		}
		checkModel(t, "24.10", s.script+more)
	}
	// And one command more than there may be just fits, or does not.
	for n := 0; n < 30; n++ {
		s := filled(t, api.MaxAnswer-20+n-50*9, times("x\n", 50), times("error 55\n", 50))
		commands := strings.Count(s.script, "\n") - strings.Count(adder, "\n")
		if commands < 50 {
			t.Fatalf("%d commands", commands)
		}
		checkModel(t, "24.10", s.script+times("x\n", 20))
	}
}

// TestManyLines: of one command, many more than there is room for.
func TestManyLines(t *testing.T) {
	round := program("m", "depth 1; region 0 65536 bytes; comp; root r8 0 65536 0 rw 0; sw r1 r8 0; lw r2 r8 65528; jmp 0; gate g 0 0 ->")
	for _, word := range []string{"run", "slow"} {
		got := shell.Do(round + word + " m 0 : fuel 100000")
		if len(got) > api.MaxAnswer || len(got) < api.MaxAnswer-20 || !strings.HasPrefix(got, "program m ok\n"+word+" m 0 spent 0 0 gate 0 at 1\n  out\n  store 0 8\n  load 65528 8\n  store 0 8\n") || !strings.HasSuffix(got, "8\ncut\n") {
			t.Errorf("24.10: %d bytes: %s", len(got), short(got))
		}
	}
	// A line that is longer than all there is room for.
	out := program("o", "depth 1; comp; li r1 -1; out r1; jmp 1; gate g 0 0 ->")
	checkTells(t, "24.10: a line that is too long", out+"check o\nrun o 0 : fuel 100000\ncheck o\n", "program o ok", "check o taken 3", "run o 0 spent 0 0 gate 0 at 2", "cut")
	checkTells(t, "24.10: a line that is too long", out+"slow o 0 : fuel 100000", "program o ok", "slow o 0 spent 0 0 gate 0 at 2", "cut")
	checkTells(t, "24.10: a line that is not", out+"slow o 0 : fuel 5000", "program o ok", "slow o 0 spent 0 0 gate 0 at 2", "  out"+times(" 18446744073709551615", 2500))
}

// TestCutPrint: the lines of what is printed are cut as any others; so is what the last one of many is.
func TestCutPrint(t *testing.T) {
	lays := program("a", "depth 1; comp; addi r15 r15 -2147483648"+times("; mul r15 r15 r15", 399)+"; gate g 0 0 ->")
	printed := strings.TrimPrefix(shell.Do(lays+"print a"), "program a ok\n")
	for n := range 9 {
		checkCut(t, "prints", saying{lays, "program a ok\n"}.with(times("print a\n", n), times(printed, n)))
	}
}
