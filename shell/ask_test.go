package shell_test

import (
	"fmt"
	"testing"

	"paddock/api"
	"paddock/cert"
	"paddock/checker"
)

// reasons has for each Reason a program's code that is refused by it, behind the instruction that is told.
func reasons() []string {
	return []string{
		api.RInt: "1 li r1 1; out r8; ret", api.RCap: "1 li r1 1; lb r1 r1 0; ret", api.RSeal: "0 cinci r6 r12 1; ret", api.RPerm: "1 candp r6 r8 w; lb r1 r6 0; ret", api.RBounds: "0 lb r1 r8 32; ret",
		api.ROtype: "1 cinci r6 r10 -3; cseal r7 r8 r6; ret", api.RAlign: "0 lc r6 r9 8; ret", api.RTarget: "2 cpc r1 1; cinci r1 r1 4; jc r1; ret", api.RSlot: "0 sc r8 r9 0; ret", api.RBytes: "0 lb r1 r11 0; ret",
		api.RMeta: "3 in r1; beq r1 r0 3; mov r6 r8; ctag r1 r6; ret", api.RGuard: "3 in r1; beq r1 r0 3; mov r6 r8; gtag r6 0; ret", api.RArgs: "1 mov r1 r8; call g; ret", api.RResult: "1 mov r1 r8; ret", api.RFall: "1 jmp 1; li r1 1",
	}
}

// corner is a program in which each Reason can be; the gate is the second one.
func corner(code string) string {
	return "depth 2; region 0 32 bytes; region 32 16 slots; slot cap 0 16 4 4 r 0 at 4; comp; ret; comp; root r8 0 32 0 rw 0; root r9 32 64 32 cd 0; root r10 0 16 3 su 0; root r11 32 64 48 rw 0; root r12 0 32 0 r 3; " +
		code + "; gate h 0 0 ->; gate g 1 0 int -> int"
}

func TestCheck(t *testing.T) {
	for _, c := range []struct {
		text  string
		steps int
	}{
		{adder, 3}, {twice, 2}, {asking, 4}, {memory, 9}, {"depth 1; comp; jmp 0; gate g 0 0 ->; gate h 0 0 ->", 2}, {"depth 1; comp; trap 0; lb r1 r1 0; gate g 0 0 ->", 1},
	} {
		checkTells(t, "24.7", program("p", c.text)+"check p", "program p ok", fmt.Sprintf("check p taken %d", c.steps))
	}
	for why := api.RInt; why <= api.RFall; why++ {
		at, code := int(reasons()[why][0]-'0'), reasons()[why][2:]
		text := corner(code)
		steps := checker.Check(parse(t, text)).Steps
		if steps < at+2 {
			t.Errorf("11: %d steps of %s", steps, code)
		}
		checkTells(t, fmt.Sprintf("24.7: the Reason %d", why), program("p", text)+"check p\ncheck p", "program p ok", fmt.Sprintf("check p refused %d gate 1 at %d after %d", why, at, steps), fmt.Sprintf("check p refused %d gate 1 at %d after %d", why, at, steps))
	}
	// An instruction and a gate of two digits.
	text := "depth 1; comp" + times("; li r1 1", 120) + "; lb r1 r1 0; ret; gate g 0 121 ->"
	for k := range 12 {
		text += fmt.Sprintf("; gate g%d 0 121 ->", k)
	}
	checkTells(t, "24.7", program("p", text+"; gate w 0 0 ->")+"check p", "program p ok", "check p refused 2 gate 13 at 120 after 134")
}

func TestCost(t *testing.T) {
	for _, c := range []struct {
		text string
		gate string
		want string
	}{
		{adder, "0", "cost p 0 3 0 1"}, {adder, "1", "cost p 1 unknown"}, {adder, "0000", "cost p 0 3 0 1"}, {adder, "007", "cost p 7 unknown"}, {adder, "2147483647", "cost p 2147483647 unknown"},
		{asking, "0", "cost p 0 4 1 0"}, {asking, "1", "cost p 1 1 0 0"}, {asking, "2", "cost p 2 unknown"},
		{"depth 1; comp; in r1; beq r1 r0 4; in r2; out r2; ret; gate g 0 0 ->", "0", "cost p 0 5 0 2"}, {"depth 1; comp; call h; call h; ret; comp; in r1; ret; gate g 0 0 ->; gate h 1 0 ->", "0", "cost p 0 7 1 2"},
		{"depth 1; comp; addi r1 r1 -1; bne r1 r0 0; ret; gate g 0 0 ->", "0", "cost p 0 unknown"}, {"depth 1; comp; call g; ret; gate g 0 0 ->", "0", "cost p 0 unknown"}, {"depth 1; comp; li r1 5; gate g 0 0 ->", "0", "cost p 0 2 0 0"}, {faulty, "0", "cost p 0 2 0 0"},
	} {
		checkTells(t, "24.7", program("p", c.text)+"cost p "+c.gate, "program p ok", c.want)
	}
	// Numbers of many digits: each gate calls the next one sixty times.
	text := "depth 16"
	for k := range 3 {
		text += "; comp" + times(fmt.Sprintf("; call g%d", k+1), 60) + "; ret"
	}
	text += "; comp" + times("; in r1", 90) + "; ret"
	for k := range 4 {
		text += fmt.Sprintf("; gate g%d %d 0 ->", k, k)
	}
	checkTells(t, "24.7", program("p", text)+"cost p 0\ncost p 1\ncost p 2\ncost p 3", "program p ok", "cost p 0 19879321 3 19440000", "cost p 1 331321 2 324000", "cost p 2 5521 1 5400", "cost p 3 91 0 90")
}

func TestGrant(t *testing.T) {
	checkTells(t, "24.7: code alone", program("p", adder)+"grant p 0\ngrant p 1\ngrant p 4\ngrant p 2147483647", "program p ok", "grant p 0 1", "  1048576 1048600 1048576 16 0", "grant p 1 0", "grant p 4 0", "grant p 2147483647 0")
	text := "depth 1; region 0 32 bytes; region 32 32 slots; slot cap 0 16 4 7 r 0 at 5; slot cap 0 4294967296 0 18446744073709551615 - 9 at 0; comp; ret; comp; root r8 32 64 32 c 0; root r9 0 16 9 u 0; root r15 0 32 18446744073709551615 rwcdsu 15; ret; ret; gate g 1 1 cap 16 32 20 20 rw 0 ->"
	checkTells(t, "24.7: roots, slots, what is opened, types", program("p", text)+"grant p 1\ngrant p 0\ngrant p 02\ncheck p",
		"program p ok", "grant p 1 9", "  0 16 4 1 0", "  0 16 9 64 0", "  0 32 18446744073709551615 111 0", "  0 32 18446744073709551615 111 15", "  0 4294967296 0 0 0", "  0 4294967296 0 0 9", "  16 32 20 3 0", "  32 64 32 4 0", "  1114112 1114128 1114112 16 0",
		"grant p 0 1", "  1048576 1048584 1048576 16 0", "grant p 2 0", "check p taken 1")
	checkTells(t, "24.7: of a program that is refused, too", program("p", faulty)+"grant p 0", "program p ok", "grant p 0 1", "  1048576 1048592 1048576 16 0")
}

func TestCert(t *testing.T) {
	for _, text := range []string{adder, twice, asking, memory, "depth 1; comp; in r1; a: glt r1 32 0; addi r1 r1 -1; bne r1 r0 a; halt r1; gate main 0 0 ->"} {
		s, e := cert.Make(parse(t, text))
		if e != api.OK {
			t.Fatalf("Make: %d", e)
		}
		checkTells(t, "24.7", program("p", text)+"cert p", "program p ok", fmt.Sprintf("cert p %d", len(s)))
	}
	checkTells(t, "24.7: an example", program("p", "depth 1; comp; in r1; a: glt r1 32 0; addi r1 r1 -1; bne r1 r0 a; halt r1; gate main 0 0 ->")+"cert p", "program p ok", "cert p 283")
	for why := api.RInt; why <= api.RFall; why++ {
		checkTells(t, "24.7: what is refused", program("p", corner(reasons()[why][2:]))+"cert p", "program p ok", "cert p error 160")
	}
	// Code that goes back to each second of its instructions, with eight roots to tell of: by sixteen gates that is more than may be.
	text := "depth 1; comp"
	for r := range 8 {
		text += fmt.Sprintf("; root r%d 0 16 0 rw 0", 8+r)
	}
	for k := range 199 {
		text += fmt.Sprintf("; in r1; bne r1 r0 %d", 2*k)
	}
	text += "; ret; gate g0 0 0 ->; gate g1 0 0 ->; gate g2 0 0 ->; gate g3 0 0 ->"
	checkTells(t, "24.7: too many bytes", program("a", text)+"link w = a a a a\ncert w\ncert a\ncheck w", "program a ok", "link w ok", "cert w error 220", "cert a 440999", "check w taken 9568")
}
