package shell_test

import "testing"

func TestExamples(t *testing.T) {
	first := program("a", "depth 1; comp;   in r1;   addi r1 r1 1;   halt r1; gate main 0 0 ->") +
		rows("check a", "run a 0 : 41 fuel 10", "run a 0 : fuel 10", "run a 0 : 41 fuel 2", "cost a 0", "run b 0 : fuel 1", "runs")
	checkTells(t, "24: example 1", first,
		"program a ok", "check a taken 3", "run a 0 halted 42 0 gate 0 at 2", "  out", "run a 0 starved 0 0 gate 0 at 0", "  out",
		"run a 0 spent 0 0 gate 0 at 2", "  out", "cost a 0 3 0 1", "error 53", "error 55")
	checkTells(t, "24: example 2", "program a", "error 55")
	checkTells(t, "24: example 2", "program a\ndepth 1\n", "error 55")
	checkTells(t, "24: example 2", "run a 0 : fuel 2147483648", "error 52")
	checkTells(t, "24: example 2", program("a", adder)+"run a 0 : fuel 2147483648", "program a ok", "error 52")
	checkTells(t, "24: example 2", "check a-b", "error 51")
}

// TestExamplesOfTheWhole: those of the document.
func TestExamplesOfTheWhole(t *testing.T) {
	guarded := "depth 1; region 0 32 bytes #05060708; comp; root r8 0 32 0 r 0; in r1; glt r1 32 9; cinc r2 r8 r1; lb r3 r2 0; halt r3; gate main 0 0 ->"
	checkTells(t, "example 1 of the whole", program("p", guarded)+rows("check p", "run p 0 : 2 fuel 9", "run p 0 : 40 fuel 9", "run p 0 : fuel 9", "slow p 0 : 40 fuel 9"),
		"program p ok", "check p taken 5", "run p 0 halted 7 0 gate 0 at 4", "  out", "  load 2 1", "run p 0 guarded 9 0 gate 0 at 1", "  out",
		"run p 0 starved 0 0 gate 0 at 0", "  out", "slow p 0 guarded 9 0 gate 0 at 1", "  out")
	bare := "depth 1; region 0 32 bytes #05060708; comp; root r8 0 32 0 r 0; in r1; cinc r2 r8 r1; lb r3 r2 0; halt r3; gate main 0 0 ->"
	checkTells(t, "example 2 of the whole", program("p", bare)+rows("check p", "slow p 0 : 2 fuel 9", "slow p 0 : 40 fuel 9", "run p 0 : 2 fuel 9"),
		"program p ok", "check p refused 5 gate 0 at 2 after 3", "slow p 0 halted 7 0 gate 0 at 3", "  out", "  load 2 1",
		"slow p 0 faulted 0 5 gate 0 at 2", "  out", "run p 0 error 160")
	sum := "depth 1; region 0 32 bytes #05060708; comp; root r8 0 32 0 r 0; li r1 0; li r2 0; li r3 4; next: bge r2 r3 done; glt r2 32 9; cinc r4 r8 r2; lb r5 r4 0; add r1 r1 r5; addi r2 r2 1; jmp next; done: halt r1; gate main 0 0 ->"
	checkTells(t, "example 3 of the whole", program("p", sum)+rows("run p 0 : fuel 99"),
		"program p ok", "run p 0 halted 26 0 gate 0 at 10", "  out", "  load 0 1", "  load 1 1", "  load 2 1", "  load 3 1")
	lent := func(first, second string) string {
		return program("p", "depth 2; region 0 32 bytes #01020304; comp; root r8 0 32 0 rw 0; "+first+"; call peek; halt r1; comp; "+second+"; ret; gate main 0 0 ->; gate peek 1 0 cap 0 32 0 0 r 0 -> int") +
			rows("check p", "slow p 0 : fuel 99")
	}
	checkTells(t, "example 4 of the whole", lent("candp r1 r8 r", "lb r1 r1 3"), "program p ok", "check p taken 5", "slow p 0 halted 4 0 gate 0 at 2", "  out", "  load 3 1")
	checkTells(t, "example 4 of the whole", lent("candp r1 r8 r", "sb r0 r1 3"), "program p ok", "check p refused 4 gate 1 at 0 after 4", "slow p 0 faulted 0 4 gate 1 at 0", "  out")
	checkTells(t, "example 4 of the whole", lent("mov r1 r8", "lb r1 r1 3"), "program p ok", "check p refused 13 gate 0 at 1 after 4", "slow p 0 faulted 0 9 gate 0 at 1", "  out")
	places := "depth 1; region 0 16 bytes #07; region 16 32 slots; slot cap 0 16 0 15 rw 0 at 0; slot cap 0 16 0 15 rw 0 at 9; comp; root r8 16 48 16 cd 0; lc r1 r8 0; lc r2 r8 16; sc r1 r8 16; lc r3 r8 16; csame r4 r1 r3; cbase r5 r2; caddr r6 r3; out r4; out r5; out r6; halt r0; gate main 0 0 ->"
	checkTells(t, "example 6 of the whole", program("p", places)+rows("run p 0 : fuel 99"),
		"program p ok", "run p 0 halted 0 0 gate 0 at 10", "  out 1 0 0", "  load 16 16", "  load 32 16", "  store 32 16", "  load 32 16")
	deep := "depth 3; comp; addi r1 r1 1; out r1; call main; ret; gate main 0 0 int ->"
	checkTells(t, "example 8 of the whole", program("p", deep)+rows("check p", "run p 0 0 : fuel 99", "slow p 0 0 : fuel 5"),
		"program p ok", "check p taken 4", "run p 0 overflow 0 0 gate 0 at 2", "  out 1 2 3 4", "slow p 0 spent 0 0 gate 0 at 2", "  out 1 2")
	round := "depth 1; comp; top: jmp top; gate main 0 0 ->"
	checkTells(t, "example 9 of the whole", program("p", round)+rows("check p", "run p 0 : fuel 2147483647"), "program p ok", "check p taken 1", "run p 0 spent 0 0 gate 0 at 0", "  out")
	fall := "depth 1; comp; addi r1 r1 1; gate main 0 0 ->"
	checkTells(t, "example 9 of the whole", program("p", fall)+rows("check p", "slow p 0 : fuel 9"), "program p ok", "check p refused 15 gate 0 at 0 after 1", "slow p 0 faulted 0 8 gate 0 at 1", "  out")
}
