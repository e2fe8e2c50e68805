package trim_test

import (
	"strings"
	"testing"

	"paddock/api"
	"paddock/trim"
)

// TestChapterFirst: example 1 of the chapter, by Fold, Pack and Trim.
func TestChapterFirst(t *testing.T) {
	whole := func(code string) string {
		return "depth 1;region 16 16 bytes;comp;root r8 16 32 16 r 0;" + code + ";gate main 0 0 ->"
	}
	m := parse(t, whole("li r1 5;addi r2 r1 1;glt r2 9 0;bne r2 r0 5;trap 1;cbase r3 r8;halt r2"))
	f := parse(t, whole("li r1 5;li r2 6;jmp 3;jmp 5;trap 0;li r3 16;halt r2"))
	p := parse(t, whole("li r1 5;li r2 6;jmp 4;trap 0;li r3 16;halt r2"))
	checkSame(t, "19.1: the first example", folded(t, m), f)
	checkSame(t, "19.2: the first example", trim.Pack(f), p)
	checkSame(t, "19.3: the first example", trimmed(t, m), p)
}

// TestChapterSecond: example 2, by Pack.
func TestChapterSecond(t *testing.T) {
	want := parse(t, bare("0")("ret"))
	checkSame(t, "19.2: entry 0", trim.Pack(parse(t, bare("0")("jmp 2;jmp 2;ret"))), want)
	checkSame(t, "19.2: entry 1", trim.Pack(parse(t, bare("1")("jmp 2;jmp 2;ret"))), want)
	checkPacks(t, bare("0"), []row{
		{"back", "jmp 1;jmp 0", "jmp 0"},
		{"with CPC", "jmp 1;cpc r1 0;ret", "jmp 1;cpc r1 0;ret"},
		{"with CPC at the end", "jmp 2;jmp 2;ret;cpc r1 0", "jmp 2;jmp 2;ret;cpc r1 0"},
	})
}

// TestChapterThird: example 3.
func TestChapterThird(t *testing.T) {
	checkFolds(t, double, []row{
		{"5 and 6", "li r2 5;jmp on;b: li r2 6;on: mov r3 r2;ret", "li r2 5;jmp on;b: li r2 6;on: mov r3 r2;ret"},
	})
}

// example is one of the document, and what Trim makes of its code.
type example struct{ what, text, code, want string }

// TestOfTheWhole: those examples of the document that are taken.
func TestOfTheWhole(t *testing.T) {
	bytes := "depth 1;region 0 32 bytes #05060708;comp;root r8 0 32 0 r 0;"
	slots := "depth 1;region 0 16 bytes #07;region 16 32 slots;slot cap 0 16 0 15 rw 0 at 0;slot cap 0 16 0 15 rw 0 at 9;comp;root r8 16 48 16 cd 0;"
	main := ";gate main 0 0 ->"
	for _, w := range []example{
		{"1", bytes + "CODE" + main, "in r1;glt r1 32 9;cinc r2 r8 r1;lb r3 r2 0;halt r3", "in r1;glt r1 32 9;cinc r2 r8 r1;lb r3 r2 0;halt r3"},
		{"3", bytes + "CODE" + main,
			"li r1 0;li r2 0;li r3 4;next: bge r2 r3 done;glt r2 32 9;cinc r4 r8 r2;lb r5 r4 0;add r1 r1 r5;addi r2 r2 1;jmp next;done: halt r1",
			"li r1 0;li r2 0;li r3 4;next: bge r2 r3 done;cinc r4 r8 r2;lb r5 r4 0;add r1 r1 r5;addi r2 r2 1;jmp next;done: halt r1"},
		{"4", "depth 2;region 0 32 bytes #01020304;comp;root r8 0 32 0 rw 0;CODE;comp;lb r1 r1 3;ret" + main + ";gate peek 1 0 cap 0 32 0 0 r 0 -> int",
			"candp r1 r8 r;call peek;halt r1", "candp r1 r8 r;call peek;halt r1"},
		{"5", "depth 2;region 0 16 bytes #2a;comp;root r8 0 16 0 r 0;root r9 0 16 5 s 0;CODE;comp;root r10 0 16 5 u 0;cunseal r2 r1 r10;lb r1 r2 0;ret" + main + ";gate keep 1 0 cap 0 16 0 0 r 5 -> int",
			"cseal r1 r8 r9;call keep;halt r1", "cseal r1 r8 r9;call keep;halt r1"},
		{"6", slots + "CODE" + main,
			"lc r1 r8 0;lc r2 r8 16;sc r1 r8 16;lc r3 r8 16;csame r4 r1 r3;cbase r5 r2;caddr r6 r3;out r4;out r5;out r6;halt r0",
			"lc r1 r8 0;lc r2 r8 16;sc r1 r8 16;lc r3 r8 16;csame r4 r1 r3;li r5 0;caddr r6 r3;out r4;out r5;out r6;halt r0"},
		{"7", "depth 1;comp;CODE" + main, "cpc r1 3;jc r1;trap 7;ctag r2 r1;halt r2", "cpc r1 3;jmp 3;trap 0;li r2 1;halt r2"},
		{"8", "depth 3;comp;CODE;gate main 0 0 int ->", "addi r1 r1 1;out r1;call main;ret", "addi r1 r1 1;out r1;call main;ret"},
		{"9", "depth 1;comp;CODE" + main, "top: jmp top", "top: jmp top"},
	} {
		m := parse(t, strings.Replace(w.text, "CODE", w.code, 1))
		want := parse(t, strings.Replace(w.text, "CODE", w.want, 1))
		checkSame(t, "19.3: example "+w.what+" of the whole", trimmed(t, m), want)
	}
}

// TestRefusedOfTheWhole: those that are not taken.
func TestRefusedOfTheWhole(t *testing.T) {
	bytes := "depth 1;region 0 32 bytes #05060708;comp;root r8 0 32 0 r 0;"
	for _, text := range []string{
		bytes + "in r1;cinc r2 r8 r1;lb r3 r2 0;halt r3;gate main 0 0 ->",
		"depth 1;comp;addi r1 r1 1;gate main 0 0 ->",
		"depth 2;region 0 32 bytes;comp;root r8 0 32 0 rw 0;mov r1 r8;call peek;halt r1;comp;lb r1 r1 3;ret;gate main 0 0 ->;gate peek 1 0 cap 0 32 0 0 r 0 -> int",
	} {
		checkRefused(t, text, parse(t, text))
	}
}

// checkRefused looks whether neither Fold nor Trim makes anything of a program.
func checkRefused(t testing.TB, what string, m api.Image) {
	t.Helper()
	if f, ok := trim.Fold(m); ok || !isEmpty(f) {
		t.Errorf("19.1: %s: %t\n%s", what, ok, shown(f))
	}
	if z, ok := trim.Trim(m); ok || !isEmpty(z) {
		t.Errorf("19.3: %s: %t\n%s", what, ok, shown(z))
	}
}
