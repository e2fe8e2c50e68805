package checker_test

import (
	"strings"
	"testing"

	"paddock/api"
	"paddock/checker"
)

// gates is a program of one compartment, with these gates.
func gates(code string, gates ...string) string {
	return "depth 2\nregion 0 32 bytes\ncomp\nroot r8 0 32 0 rw 0\n" + rows(code) + rows(gates...)
}

// TestFirstReason: by gate, and then by instruction, whenever each was found.
func TestFirstReason(t *testing.T) {
	// 1 jumps on to 4, so that 3 is done behind 5; both are refused.
	later := alone("in r1", "beq r1 r0 a", "jmp b", "a: out r8", "b: in r1", "lb r1 r1 0", "ret")
	// 0 to 2 are refused, each by its own Reason.
	three := "x: lb r1 r1 0;y: jc r8;z: halt r8;w: ret"
	for _, c := range []struct {
		text string
		want found
	}{
		{later, refused(api.RInt, 0, 3, 6)},
		{strings.Replace(later, "out r8", "out r0", 1), refused(api.RCap, 0, 5, 6)},
		{alone("in r1", "bne r1 r0 c", "lb r2 r3 0", "trap 0", "c: sb r8 r8 0", "ret"), refused(api.RCap, 0, 2, 4)},
		// One behind the other, on a way back: 2 is found first, 1 is told.
		{alone("jmp 2", "lb r1 r8 32", "in r1", "beq r1 r0 1", "out r8", "ret"), refused(api.RBounds, 0, 1, 5)},

		{gates(three, "gate a 0 w ->", "gate b 0 z ->", "gate c 0 x ->"), refused(api.RInt, 1, 2, 3)},
		{gates(three, "gate a 0 z ->", "gate b 0 x ->", "gate c 0 y ->"), refused(api.RInt, 0, 2, 3)},
		{gates(three, "gate a 0 y ->", "gate b 0 x ->", "gate c 0 z ->"), refused(api.RPerm, 0, 1, 3)},
		{gates(three, "gate a 0 w ->", "gate b 0 w ->", "gate c 0 x ->"), refused(api.RCap, 2, 0, 3)},
		{gates(three, "gate a 0 w ->", "gate b 0 w -> int", "gate c 0 w -> int int"), taken(3)},
		{gates(three, "gate a 0 w ->", "gate b 0 w -> int", "gate c 0 w -> cap 0 32 0 0 rw 0"), refused(api.RResult, 2, 3, 3)},
		// The same gate twice: the first one is told.
		{gates(three, "gate a 0 x ->", "gate b 0 x ->"), refused(api.RCap, 0, 0, 2)},

		// What nobody comes to is not asked.
		{alone("ret", "lb r1 r1 0", "out r8"), taken(1)},
		{alone("jmp 2", "lb r1 r1 0", "ret"), taken(2)},
		{alone("ret", "li r1 1"), taken(1)},
		{rows("depth 1;comp;ret;comp;jc r0;gate g 0 0 ->"), taken(1)},
	} {
		checkFound(t, "11.2", c.text, c.want)
	}
}

// reasons has for each Reason a program that is refused by it, at the instruction that is told.
func reasons() map[api.Reason]string {
	return map[api.Reason]string{
		api.RInt:    "1 li r1 1;out r8;ret",
		api.RCap:    "1 li r1 1;lb r1 r1 0;ret",
		api.RSeal:   "0 cinci r6 r12 1;ret",
		api.RPerm:   "1 candp r6 r8 w;lb r1 r6 0;ret",
		api.RBounds: "0 lb r1 r8 32;ret",
		api.ROtype:  "1 cinci r6 r10 -3;cseal r7 r8 r6;ret",
		api.RAlign:  "0 lc r6 r9 8;ret",
		api.RTarget: "2 cpc r1 1;cinci r1 r1 4;jc r1;ret",
		api.RSlot:   "0 sc r8 r9 0;ret",
		api.RBytes:  "0 lb r1 r11 0;ret",
		api.RMeta:   "3 in r1;beq r1 r0 3;mov r6 r8;ctag r1 r6;ret",
		api.RGuard:  "3 in r1;beq r1 r0 3;mov r6 r8;gtag r6 0;ret",
		api.RArgs:   "1 mov r1 r8;call g;ret",
		api.RResult: "1 mov r1 r8;ret",
		api.RFall:   "1 jmp 1;li r1 1",
	}
}

// corner is a program of one compartment, in which each Reason can be.
func corner(code string) string {
	return rows("depth 2;region 0 32 bytes;region 32 16 slots;slot cap 0 16 4 4 r 0 at 4",
		"comp;root r8 0 32 0 rw 0;root r9 32 64 32 cd 0;root r10 0 16 3 su 0;root r11 32 64 48 rw 0;root r12 0 32 0 r 3",
		code, "gate g 0 0 int -> int")
}

// TestEachReason: it is told as it is, with its place.
func TestEachReason(t *testing.T) {
	texts := reasons()
	for why := api.RInt; why <= api.RFall; why++ {
		pc, code, _ := strings.Cut(texts[why], " ")
		r := checker.Check(parse(t, corner(code)))
		if r.Reason != why || r.Gate != 0 || r.Pc != int(pc[0]-'0') {
			t.Errorf("11.2: %d at %d, want %d at %s, of %s", r.Reason, r.Pc, why, pc, code)
		}
	}
}

// TestStepsOfAllGates: they are summed, those of gates behind the first Reason, too; what the report asks counts nothing.
func TestStepsOfAllGates(t *testing.T) {
	code := "x: lb r1 r1 0;y: li r1 1;li r2 2;z: ret"
	for _, c := range []struct {
		gates []string
		want  found
	}{
		{[]string{"gate a 0 z ->"}, taken(1)},
		{[]string{"gate a 0 y ->"}, taken(3)},
		{[]string{"gate a 0 y ->", "gate b 0 y ->", "gate c 0 z ->"}, taken(7)},
		{[]string{"gate a 0 x ->", "gate b 0 y ->", "gate c 0 z ->"}, refused(api.RCap, 0, 0, 5)},
		{[]string{"gate a 0 x cap 0 32 0 31 rw 0 ->", "gate b 0 x ->", "gate c 0 y ->"}, refused(api.RCap, 1, 0, 8)},
	} {
		checkFound(t, "11.2", gates(code, c.gates...), c.want)
	}
	var l []string
	for _, name := range strings.Split("abcdefghijklmnop", "") {
		l = append(l, "gate "+name+" 0 y ->")
	}
	checkFound(t, "11.2", gates(code, l...), taken(3*api.MaxGates))
}
