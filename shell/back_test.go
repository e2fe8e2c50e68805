package shell_test

import (
	"fmt"
	"strings"
	"testing"
)

// kept is a run of two compartments that call one another.
const kept = "depth 3; region 0 32 bytes #0506; comp; root r8 0 32 4 rw 0; in r1; sb r1 r8 3; call deep; out r1; halt r2; comp; root r15 0 32 31 r 0; add r2 r1 r1; call deeper; addi r1 r2 -1; ret; comp; li r7 -1; ret; gate main 0 0 ->; gate deep 1 0 int -> int; gate deeper 2 0 -> "

func TestBack(t *testing.T) {
	for k, want := range []string{
		"back p 0 0 gate 0 at 0 deep 0;0 0 0 0 0 0 0 0 4 0 0 0 0 0 0 0",
		"back p 0 1 gate 0 at 1 deep 0;0 7 0 0 0 0 0 0 4 0 0 0 0 0 0 0",
		"back p 0 2 gate 0 at 2 deep 0;0 7 0 0 0 0 0 0 4 0 0 0 0 0 0 0",
		"back p 0 3 gate 1 at 0 deep 1;0 7 0 0 0 0 0 0 0 0 0 0 0 0 0 31",
		"back p 0 4 gate 1 at 1 deep 1;0 7 14 0 0 0 0 0 0 0 0 0 0 0 0 31",
		"back p 0 5 gate 2 at 0 deep 2;0 0 0 0 0 0 0 0 0 0 0 0 0 0 0 0",
		"back p 0 6 gate 2 at 1 deep 2;0 0 0 0 0 0 0 18446744073709551615 0 0 0 0 0 0 0 0",
		"back p 0 7 gate 1 at 2 deep 1;0 7 14 0 0 0 0 0 0 0 0 0 0 0 0 31",
		"back p 0 8 gate 1 at 3 deep 1;0 13 14 0 0 0 0 0 0 0 0 0 0 0 0 31",
		"back p 0 9 gate 0 at 3 deep 0;0 13 0 0 0 0 0 0 4 0 0 0 0 0 0 0",
		"back p 0 10 gate 0 at 4 deep 0;0 13 0 0 0 0 0 0 4 0 0 0 0 0 0 0",
		"back p 0 11 gate 0 at 4 deep 0;0 13 0 0 0 0 0 0 4 0 0 0 0 0 0 0",
		"", "",
	} {
		first, regs, is := strings.Cut(want, ";")
		l := []string{first, "  " + regs}
		if !is {
			l = []string{"back p 0 error 210"}
		}
		checkBehind(t, "24.9", program("p", kept), fmt.Sprintf("back p 0 : 7 fuel 99 at %d", k), l...)
		checkBehind(t, "24.9: just enough fuel", program("p", kept), fmt.Sprintf("back p 00 : 007 fuel 11 at 0%d", k), l...)
		checkBehind(t, "24.9: inputs that are left", program("p", kept), fmt.Sprintf("back p 0 : 7 8 9 fuel 2147483647 at %d", k), l...)
	}
	// With less fuel there are fewer steps.
	for fuel := range 12 {
		l := []string{"back p 0 error 210", "back p 0 error 210"}
		checkBehind(t, "24.9: fuel", program("p", kept), fmt.Sprintf("back p 0 : 7 fuel %d at %d\nback p 0 : 7 fuel %d at 2147483647", fuel, fuel+1, fuel), l...)
		checkModel(t, "24.9: fuel", program("p", kept)+fmt.Sprintf("back p 0 : 7 fuel %d at %d\n", fuel, fuel))
	}
}

// TestWrongBack: each error of chapter 21.
func TestWrongBack(t *testing.T) {
	lays := program("p", kept) + program("f", faulty) + program("l", "depth 1; comp; ret; gate g 0 0 cap 0 16 0 0 r 0 ->")
	for _, c := range []struct{ line, want string }{
		{"f 0 : fuel 9 at 0", "f 0 error 160"}, {"f 0 1 : fuel 9 at 0", "f 0 error 160"}, {"f 7 : fuel 9 at 99", "f 7 error 160"},
		{"p 3 : fuel 9 at 0", "p 3 error 70"}, {"p 3 1 : fuel 9 at 0", "p 3 error 70"}, {"p 2147483647 : fuel 9 at 99", "p 2147483647 error 70"}, {"l 0 : fuel 9 at 0", "l 0 error 70"}, {"l 0 0 : fuel 9 at 0", "l 0 error 70"},
		{"p 0 1 : fuel 9 at 0", "p 0 error 71"}, {"p 1 : fuel 9 at 0", "p 1 error 71"}, {"p 1 : 1 fuel 9 at 99", "p 1 error 71"}, {"p 01 1 2 : fuel 9 at 0", "p 1 error 71"},
		{"p 0 : fuel 9 at 2", "p 0 error 210"}, {"p 0 : 7 fuel 0 at 1", "p 0 error 210"}, {"p 2 : fuel 9 at 3", "p 2 error 210"}, {"p 0 : 7 fuel 99 at 2147483647", "p 0 error 210"},
	} {
		checkBehind(t, "24.9: "+c.line, lays, "back "+c.line, "back "+c.want)
	}
}

func TestEndsOfTapes(t *testing.T) {
	lays := program("p", kept)
	nought := "  0 0 0 0 0 0 0 0 0 0 0 0 0 0 0 0"
	checkBehind(t, "24.9: no fuel", lays, "back p 0 : 7 fuel 0 at 0", "back p 0 0 gate 0 at 0 deep 0", "  0 0 0 0 0 0 0 0 4 0 0 0 0 0 0 0")
	checkBehind(t, "24.9: another gate", lays, "back p 2 : fuel 9 at 0\nback p 2 : fuel 9 at 1\nback p 2 : fuel 9 at 2", "back p 2 0 gate 2 at 0 deep 0", nought, "back p 2 1 gate 2 at 1 deep 0", "  0 0 0 0 0 0 0 18446744073709551615 0 0 0 0 0 0 0 0",
		"back p 2 2 gate 2 at 1 deep 0", "  0 0 0 0 0 0 0 18446744073709551615 0 0 0 0 0 0 0 0")
	checkBehind(t, "24.9: an argument", lays, "back p 1 5 : fuel 9 at 0", "back p 1 0 gate 1 at 0 deep 0", "  0 5 0 0 0 0 0 0 0 0 0 0 0 0 0 31")
	checkBehind(t, "24.9: starved", lays, "back p 0 : fuel 9 at 0\nback p 0 : fuel 9 at 1\nback p 0 : fuel 9 at 2", "back p 0 0 gate 0 at 0 deep 0", "  0 0 0 0 0 0 0 0 4 0 0 0 0 0 0 0", "back p 0 1 gate 0 at 0 deep 0", "  0 0 0 0 0 0 0 0 4 0 0 0 0 0 0 0", "back p 0 error 210")
	all := "depth 1; comp; root r8 0 16 8 r 0; root r9 0 16 9 r 0; root r10 0 16 10 r 0; root r11 0 16 11 r 0; root r12 0 16 12 r 0; root r13 0 16 13 r 0; root r14 0 16 14 r 0; root r15 0 16 18446744073709551615 r 0; in r0; ret; gate g 0 0 int int int int int int int ->"
	checkBehind(t, "24.9: all registers", program("p", all), "back p 0 1 2 3 4 5 6 7 : 18446744073709551614 fuel 9 at 1", "back p 0 1 gate 0 at 1 deep 0", "  18446744073709551614 1 2 3 4 5 6 7 8 9 10 11 12 13 14 18446744073709551615")
	round := program("r", "depth 1; comp; addi r1 r1 1; jmp 0; gate g 0 0 ->")
	checkBehind(t, "24.9: MaxFuel", round, "back r 0 : fuel 2147483647 at 99999\nback r 0 : fuel 2147483647 at 100000\nback r 0 : fuel 2147483647 at 100001\nback r 0 : fuel 100000 at 77777",
		"back r 0 99999 gate 0 at 1 deep 0", "  0 50000 0 0 0 0 0 0 0 0 0 0 0 0 0 0", "back r 0 100000 gate 0 at 0 deep 0", "  0 50000 0 0 0 0 0 0 0 0 0 0 0 0 0 0", "back r 0 error 210", "back r 0 77777 gate 0 at 1 deep 0", "  0 38889 0 0 0 0 0 0 0 0 0 0 0 0 0 0")
	deep := program("d", "depth 16; comp; call g; ret; gate g 0 0 ->")
	checkBehind(t, "24.9: deep", deep, "back d 0 : fuel 99 at 16\nback d 0 : fuel 99 at 17\nback d 0 : fuel 99 at 18\nback d 0 : fuel 15 at 15", "back d 0 16 gate 0 at 0 deep 16", nought, "back d 0 17 gate 0 at 0 deep 16", nought, "back d 0 error 210", "back d 0 15 gate 0 at 0 deep 15", nought)
}
