package shell_test

import (
	"fmt"
	"strings"
	"testing"

	"paddock/api"
)

// both asks for the same of both machines, told by the words behind the first one.
func both(t *testing.T, what string, lays string, line string, want ...string) {
	t.Helper()
	for _, word := range []string{"run ", "slow "} {
		l := append([]string{word + want[0]}, want[1:]...)
		checkBehind(t, "24.8: "+what, lays, word+line+"\n"+word+line, append(append([]string{}, l...), l...)...)
	}
}

// TestArguments: too few, too many, none; and gates that are not there.
func TestArguments(t *testing.T) {
	lays := program("p", "depth 2; comp; out r1; out r2; out r7; in r3; out r3; in r4; out r4; ret; gate none 0 0 ->; gate one 0 0 int ->; gate two 0 0 int int ->; gate seven 0 0 int int int int int int int ->; gate lent 0 0 cap 0 16 0 0 r 0 ->; gate both 0 0 int cap 0 16 0 0 r 0 ->; gate gives 0 7 cap 0 16 0 0 r 0 -> cap 0 16 0 0 r 0")
	// The gates with capabilities put one of them out, so that the checker refuses them: they are asked of the other machine alone.
	taken := program("p", "depth 2; comp; out r1; out r2; out r7; in r3; out r3; in r4; out r4; ret; gate none 0 0 ->; gate one 0 0 int ->; gate two 0 0 int int ->; gate seven 0 0 int int int int int int int ->; gate gives 0 7 cap 0 16 0 0 r 0 -> cap 0 16 0 0 r 0; gate last 0 7 int cap 0 16 0 0 r 0 ->")
	both(t, "none", taken, "p 0 : 8 9 fuel 99", "p 0 halted 0 0 gate 0 at 7", "  out 0 0 0 8 9")
	both(t, "one", taken, "p 1 5 : 8 9 fuel 99", "p 1 halted 0 0 gate 1 at 7", "  out 5 0 0 8 9")
	both(t, "two", taken, "p 2 5 6 : 8 9 fuel 99", "p 2 halted 0 0 gate 2 at 7", "  out 5 6 0 8 9")
	both(t, "seven", taken, "p 3 1 2 3 4 5 6 18446744073709551615 : 8 9 fuel 99", "p 3 halted 0 0 gate 3 at 7", "  out 1 2 18446744073709551615 8 9")
	both(t, "inputs in their order, more than are taken", taken, "p 0 : 18446744073709551615 0 1 2 3 fuel 99", "p 0 halted 0 0 gate 0 at 7", "  out 0 0 0 18446744073709551615 0")
	both(t, "the inputs end", taken, "p 0 : 8 fuel 99", "p 0 starved 0 0 gate 0 at 5", "  out 0 0 0 8")
	both(t, "no inputs", taken, "p 1 8 : fuel 99", "p 1 starved 0 0 gate 1 at 3", "  out 8 0 0")
	for _, line := range []string{"p 0 1 : fuel 9", "p 0 1 2 : fuel 9", "p 1 : fuel 9", "p 1 : 1 fuel 9", "p 1 1 2 : fuel 9", "p 2 : fuel 9", "p 2 1 : 2 fuel 9", "p 2 1 2 3 : fuel 9", "p 3 1 2 3 4 5 6 : 7 fuel 9", "p 3 1 2 3 4 5 6 7 8 : fuel 9", "p 0 " + times("1 ", 500) + ": fuel 9", "p 1 : fuel 0", "p 001 : fuel 9"} {
		gate := strings.TrimLeft(strings.Fields(line)[1], "0")
		if gate == "" {
			gate = "0"
		}
		both(t, "another number of arguments", taken, line, "p "+gate+" error 71")
	}
	for _, line := range []string{"p 6 : fuel 9", "p 6 1 : fuel 9", "p 7 : fuel 0", "p 16 : fuel 9", "p 2147483647 : fuel 9", "p 4 : fuel 9", "p 4 0 : fuel 9", "p 5 : fuel 9", "p 5 1 2 : fuel 9", "p 5 1 : fuel 9"} {
		both(t, "no such gate, or none that can be an entry", taken, line, "p "+strings.Fields(line)[1]+" error 70")
	}
	checkBehind(t, "24.8: what is not taken", lays, "run p 0 : fuel 9\nrun p 9 : fuel 9\nrun p 1 : fuel 9\nrun p 04 : fuel 0\nslow p 4 1 : fuel 9\nslow p 5 : fuel 9\nslow p 9 : fuel 9\nslow p 1 : fuel 9\nslow p 1 3 : fuel 2",
		"run p 0 error 160", "run p 9 error 160", "run p 1 error 160", "run p 4 error 160", "slow p 4 error 70", "slow p 5 error 70", "slow p 9 error 70", "slow p 1 error 71", "slow p 1 spent 0 0 gate 1 at 2", "  out 3 0")
}

func TestFuel(t *testing.T) {
	lays := program("a", adder)
	for fuel := range 3 {
		at := fuel
		both(t, "too little", lays, fmt.Sprintf("a 0 : 41 fuel %d", fuel), fmt.Sprintf("a 0 spent 0 0 gate 0 at %d", at), "  out")
	}
	for _, fuel := range []string{"3", "4", "0000000000000000003", "100000", "100001", "2147483647"} {
		both(t, "enough", lays, "a 0 : 41 fuel "+fuel, "a 0 halted 42 0 gate 0 at 2", "  out")
	}
	// A run goes on for MaxFuel steps at most: the second row takes one of a hundred thousand and one.
	round := program("r", "depth 1; comp; in r1; addi r2 r2 1; bne r2 r1 1; halt r2; gate g 0 0 ->")
	both(t, "MaxFuel", round, "r 0 : 49999 fuel 2147483647", "r 0 halted 49999 0 gate 0 at 3", "  out")
	both(t, "MaxFuel", round, "r 0 : 50000 fuel 2147483647", "r 0 spent 0 0 gate 0 at 2", "  out")
	both(t, "MaxFuel", round, "r 0 : 50000 fuel 100000", "r 0 spent 0 0 gate 0 at 2", "  out")
	both(t, "one less", round, "r 0 : 50000 fuel 99999", "r 0 spent 0 0 gate 0 at 1", "  out")
	both(t, "fuel at an input that is not there", lays, "a 0 : fuel 0", "a 0 spent 0 0 gate 0 at 0", "  out")
	both(t, "fuel at an input that is not there", lays, "a 0 : fuel 1", "a 0 starved 0 0 gate 0 at 0", "  out")
}

// TestEnds: each of the seven.
func TestEnds(t *testing.T) {
	text := "depth 2; comp; in r1; beq r1 r0 nought; call deep; jmp 0; nought: in r1; glt r1 3 77; beq r1 r0 stop; trap 255; stop: in r2; halt r2; comp; call deep; ret; gate main 0 0 ->; gate deep 1 0 ->; gate gives 0 stop -> int"
	lays := program("p", text)
	both(t, "halted", lays, "p 0 : 0 0 18446744073709551615 fuel 99", "p 0 halted 18446744073709551615 0 gate 0 at 9", "  out")
	both(t, "guarded", lays, "p 0 : 0 3 fuel 99", "p 0 guarded 77 0 gate 0 at 5", "  out")
	both(t, "trapped", lays, "p 0 : 0 2 fuel 99", "p 0 trapped 255 0 gate 0 at 7", "  out")
	both(t, "spent", lays, "p 0 : 0 0 1 fuel 5", "p 0 spent 0 0 gate 0 at 8", "  out")
	both(t, "overflow", lays, "p 0 : 1 fuel 99", "p 0 overflow 0 0 gate 1 at 0", "  out")
	both(t, "starved", lays, "p 0 : 0 0 fuel 99", "p 0 starved 0 0 gate 0 at 8", "  out")
	both(t, "from another gate", lays, "p 2 : 6 fuel 9", "p 2 halted 6 0 gate 2 at 9", "  out")
	both(t, "by ret", program("v", twice), "v 0 21 : fuel 9", "v 0 halted 42 0 gate 0 at 1", "  out")
	both(t, "a capability", program("p", "depth 1; comp; root r8 0 16 9 rw 0; mov r1 r8; ret; gate g 0 0 -> cap 0 16 9 9 rw 0"), "p 0 : fuel 9", "p 0 halted 9 0 gate 0 at 1", "  out")
	both(t, "code and place of two digits", program("p", "depth 1; comp; halt r0"+times("; ret", 20)+"; trap 100; gate g 0 0 ->; gate h 0 21 ->"), "p 1 : fuel 9", "p 1 trapped 100 0 gate 1 at 21", "  out")
}

// TestFaults: each of the nine, on the machine that looks at every step.
func TestFaults(t *testing.T) {
	for fault := api.FTag; fault <= api.FGate; fault++ {
		at, code := 0, ""
		switch fault {
		case api.FTag:
			at, code = 1, "out r1; lb r1 r2 0; ret"
		case api.FInt:
			at, code = 1, "out r1; out r8; ret"
		case api.FSeal:
			at, code = 0, "cinci r6 r12 1; ret"
		case api.FPerm:
			at, code = 2, "lb r1 r8 0; candp r6 r8 w; lb r1 r6 0; ret"
		case api.FBounds:
			at, code = 0, "lb r1 r8 32; ret"
		case api.FOtype:
			at, code = 1, "cinci r6 r10 -3; cseal r7 r8 r6; ret"
		case api.FAlign:
			at, code = 0, "lc r6 r13 8; ret"
		case api.FTarget:
			at, code = 2, "li r1 1; li r2 2"
		case api.FGate:
			at, code = 1, "mov r1 r8; call g; ret"
		}
		out := "  out"
		if strings.HasPrefix(code, "out r1") {
			out = "  out 5"
		}
		told := []string{"program p ok", fmt.Sprintf("slow p 1 faulted 0 %d gate 1 at %d", fault, at), out}
		if fault == api.FPerm {
			told = append(told, "  load 0 1")
		}
		text := strings.Replace(corner(code), "root r12 0 32 0 r 3; ", "root r12 0 32 0 r 3; root r13 32 64 32 cd 0; ", 1)
		line := strings.Join(strings.Fields(told[1])[1:5], " ")
		checkTells(t, fmt.Sprintf("24.8: the fault %d (%s)", fault, line), program("p", text)+"slow p 1 5 : fuel 99\nrun p 1 5 : fuel 99\nslow p 1 5 : fuel 0", append(told, "run p 1 error 160", "slow p 1 spent 0 0 gate 1 at 0", "  out")...)
	}
	// What the checker refuses may run well.
	guarded := "depth 1; region 0 32 bytes #05060708; comp; root r8 0 32 0 r 0; in r1; cinc r2 r8 r1; lb r3 r2 0; halt r3; gate main 0 0 ->"
	checkTells(t, "24.8: slow, of what is not taken", program("p", guarded)+"slow p 0 : 3 fuel 9\nrun p 0 : 3 fuel 9\nslow p 0 : fuel 9", "program p ok", "slow p 0 halted 8 0 gate 0 at 3", "  out", "  load 3 1", "run p 0 error 160", "slow p 0 starved 0 0 gate 0 at 0", "  out")
}

func TestOut(t *testing.T) {
	text := "depth 1; comp; in r1; out r1; jmp 0; gate g 0 0 ->"
	lays := program("p", text)
	for _, out := range []string{"", " 0", " 7", " 18446744073709551615", " 1 2 3", " 3 2 1 0 0 18446744073709551615 9223372036854775808" + times(" 10", 100)} {
		at := 3 * len(strings.Fields(out))
		both(t, "what is put out", lays, "p 0 :"+out+" fuel 9999", "p 0 starved 0 0 gate 0 at 0", "  out"+out)
		both(t, "what is put out", lays, fmt.Sprintf("p 0 :%s fuel %d", out, at), "p 0 spent 0 0 gate 0 at 0", "  out"+out)
	}
}

// TestTouches: of both kinds, and of each size.
func TestTouches(t *testing.T) {
	both(t, "touches", program("m", memory), "m 0 : fuel 99", "m 0 halted 0 0 gate 0 at 8", "  out 6 100664837",
		"  load 1 1", "  store 3 1", "  load 0 8", "  store 16 8", "  load 32 16", "  store 32 16")
	both(t, "those that were done", program("m", memory), "m 0 : fuel 4", "m 0 spent 0 0 gate 0 at 4", "  out", "  load 1 1", "  store 3 1", "  load 0 8", "  store 16 8")
	high := "depth 1; region 65504 32 bytes; comp; root r8 65504 65536 65535 rw 0; sb r0 r8 0; lb r1 r8 -31; lw r1 r8 -7; sw r1 r8 -30; sw r1 r8 -31; ret; gate g 0 0 ->"
	both(t, "addresses", program("m", high), "m 0 : fuel 99", "m 0 halted 0 0 gate 0 at 5", "  out", "  store 65535 1", "  load 65504 1", "  load 65528 8", "  store 65505 8", "  store 65504 8")
	round := "depth 1; region 0 16 bytes; comp; root r8 0 16 0 rw 0; in r1; beq r1 r0 7; sb r1 r8 15; lb r2 r8 15; out r2; addi r1 r1 -1; jmp 1; ret; gate g 0 0 ->"
	want := []string{"m 0 halted 0 0 gate 0 at 7", ""}
	for k := range 50 {
		want[1] = fmt.Sprintf(" %d", k+1) + want[1]
		want = append(want, "  store 15 1", "  load 15 1")
	}
	want[1] = "  out" + want[1]
	both(t, "many", program("m", round), "m 0 : 50 fuel 9999", want...)
}

// TestRunsBeginAnew: each with memory as the program says.
func TestRunsBeginAnew(t *testing.T) {
	text := "depth 1; region 0 16 bytes #01; comp; root r8 0 16 0 rw 0; lb r1 r8 0; add r2 r1 r1; sb r2 r8 0; halt r1; gate g 0 0 ->"
	both(t, "anew", program("p", text), "p 0 : fuel 9", "p 0 halted 1 0 gate 0 at 3", "  out", "  load 0 1", "  store 0 1")
	slots := "depth 1; region 0 16 slots; slot cap 0 16 0 9 cd 0 at 0; comp; root r8 0 16 0 cd 0; lc r1 r8 0; cinci r1 r1 9; caddr r2 r1; out r2; sc r1 r8 0; ret; gate g 0 0 ->"
	checkTells(t, "24.8: anew", program("p", slots)+"slow p 0 : fuel 9\nslow p 0 : fuel 9", "program p ok", "slow p 0 halted 0 0 gate 0 at 5", "  out 9", "  load 0 16", "  store 0 16", "slow p 0 halted 0 0 gate 0 at 5", "  out 9", "  load 0 16", "  store 0 16")
}

// TestSources: they run as chapter 15 says.
func TestSources(t *testing.T) {
	lays := source("s", squares)
	checkModel(t, "24.8", lays+"run s 0 4 : fuel 9999\nslow s 0 4 : fuel 9999\nrun s 0 9 : fuel 9999\nrun s 1 : fuel 9\nrun s 1 0 : fuel 9\nrun s 2 : fuel 9\nrun s 0 : fuel 9\ncheck s")
	for _, c := range []struct{ line, want string }{
		{"run s 0 4 : fuel 9999", "run s 0 halted 14 0 gate 0"}, {"slow s 0 4 : fuel 9999", "slow s 0 halted 14 0 gate 0"}, {"run s 0 9 : fuel 9999", "run s 0 guarded 255 0 gate 0"}, {"run s 1 0 : fuel 9", "run s 1 error 70"}, {"check s", "check s taken"},
	} {
		if got := lineOf(lays+c.line, 1); !strings.HasPrefix(got, c.want) {
			t.Errorf("24.8: %s tells %s, want %s", c.line, got, c.want)
		}
	}
}
