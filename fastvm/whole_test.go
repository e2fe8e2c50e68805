package fastvm_test

import (
	"fmt"
	"slices"
	"strings"
	"testing"

	"paddock/api"
	"paddock/asm"
	"paddock/capmachine"
	"paddock/checker"
	"paddock/erase"
)

// taken is a program that the checker takes, of a text in which a semicolon stands for the end of a line, and what is left of it.
func taken(t testing.TB, text string) (api.Image, api.Program) {
	t.Helper()
	m, e, line := asm.Parse(strings.ReplaceAll(text, ";", "\n"))
	if e != api.OK {
		t.Fatalf("a text is wrong in line %d: %d\n%s", line, e, text)
	}
	p, ok := erase.Program(m, checker.Check(m))
	if !ok {
		t.Fatalf("it is not taken: %s", text)
	}
	return m, p
}

// checkBoth runs a program on both machines, step by step, and answers how it ended.
func checkBoth(t *testing.T, what string, text string, args []uint64, inputs []uint64, fuel int) (api.Outcome, look) {
	t.Helper()
	m, p := taken(t, text)
	first, e := capmachine.New(m, 0, args, inputs)
	if e != api.OK {
		t.Fatalf("%s: a run may not begin: %d", what, e)
	}
	second := begin(t, p, 0, args, inputs)
	var o api.Outcome
	for step := range fuel + 1 {
		want := look{erase.Snap(first.Snap()), first.Out(), first.Touches(), first.Memory().Bytes()}
		if checkLook(t, fmt.Sprintf("T2: %s: behind %d steps", what, step), second, want); t.Failed() {
			t.FailNow()
		}
		if o.End != api.Running || step == fuel {
			break
		}
		o = first.Step()
		checkOutcome(t, "T2: "+what, second.Step(), o)
	}
	o = first.Run(0)
	checkOutcome(t, "T2: "+what, second.Run(0), o)
	return o, lookAt(second)
}

// example is one of the document's own.
type example struct {
	text    string
	args    []uint64
	inputs  []uint64
	want    api.Outcome
	out     []uint64
	touches []api.Touch
}

const reading = "depth 1;region 0 32 bytes #05060708;comp;root r8 0 32 0 r 0;in r1;glt r1 32 9;cinc r2 r8 r1;lb r3 r2 0;halt r3;gate main 0 0 ->"

func halted(n uint64, pc int) api.Outcome { return api.Outcome{End: api.Halted, Value: n, Pc: pc} }

func load(addr, size uint64) api.Touch { return api.Touch{Addr: addr, Size: size} }

func examples() map[string]example {
	return map[string]example{
		"1":                   {reading, nil, []uint64{2}, halted(7, 4), nil, []api.Touch{load(2, 1)}},
		"1, with 40":          {reading, nil, []uint64{40}, api.Outcome{End: api.Guarded, Value: 9, Pc: 1}, nil, nil},
		"1, without an input": {reading, nil, nil, api.Outcome{End: api.Starved}, nil, nil},
		"3": {"depth 1;region 0 32 bytes #05060708;comp;root r8 0 32 0 r 0;li r1 0;li r2 0;li r3 4;next: bge r2 r3 done;glt r2 32 9;cinc r4 r8 r2;lb r5 r4 0;add r1 r1 r5;addi r2 r2 1;jmp next;done: halt r1;gate main 0 0 ->",
			nil, nil, halted(26, 10), nil, []api.Touch{load(0, 1), load(1, 1), load(2, 1), load(3, 1)}},
		"4": {"depth 2;region 0 32 bytes #01020304;comp;root r8 0 32 0 rw 0;candp r1 r8 r;call peek;halt r1;comp;lb r1 r1 3;ret;gate main 0 0 ->;gate peek 1 0 cap 0 32 0 0 r 0 -> int",
			nil, nil, halted(4, 2), nil, []api.Touch{load(3, 1)}},
		"5": {"depth 2;region 0 16 bytes #2a;comp;root r8 0 16 0 r 0;root r9 0 16 5 s 0;cseal r1 r8 r9;call keep;halt r1;comp;root r10 0 16 5 u 0;cunseal r2 r1 r10;lb r1 r2 0;ret;gate main 0 0 ->;gate keep 1 0 cap 0 16 0 0 r 5 -> int",
			nil, nil, halted(42, 2), nil, []api.Touch{load(0, 1)}},
		"6": {"depth 1;region 0 16 bytes #07;region 16 32 slots;slot cap 0 16 0 15 rw 0 at 0;slot cap 0 16 0 15 rw 0 at 9;comp;root r8 16 48 16 cd 0;lc r1 r8 0;lc r2 r8 16;sc r1 r8 16;lc r3 r8 16;csame r4 r1 r3;cbase r5 r2;caddr r6 r3;out r4;out r5;out r6;halt r0;gate main 0 0 ->",
			nil, nil, halted(0, 10), []uint64{1, 0, 0}, []api.Touch{load(16, 16), load(32, 16), {Store: true, Addr: 32, Size: 16}, load(32, 16)}},
		"7": {"depth 1;comp;cpc r1 3;jc r1;trap 7;ctag r2 r1;halt r2;gate main 0 0 ->", nil, nil, halted(1, 4), nil, nil},
		"8": {"depth 3;comp;addi r1 r1 1;out r1;call main;ret;gate main 0 0 int ->", []uint64{0}, nil, api.Outcome{End: api.Overflow, Pc: 2}, []uint64{1, 2, 3, 4}, nil},
		"9": {"depth 1;comp;top: jmp top;gate main 0 0 ->", nil, nil, api.Outcome{End: api.Spent}, nil, nil},
	}
}

// TestExamplesOfTheWhole: what is taken does the same on both machines, and what the document says.
func TestExamplesOfTheWhole(t *testing.T) {
	for name, x := range examples() {
		o, l := checkBoth(t, "Example "+name, x.text, x.args, x.inputs, 200)
		checkOutcome(t, "Example "+name, o, x.want)
		if !slices.Equal(l.out, x.out) || !slices.Equal(l.touches, x.touches) {
			t.Errorf("Example %s: put out: %v, touched: %v", name, l.out, l.touches)
		}
	}
	o, l := checkBoth(t, "Example 8, with fuel 5", examples()["8"].text, []uint64{0}, nil, 5)
	if o != (api.Outcome{End: api.Spent, Pc: 2}) || !slices.Equal(l.out, []uint64{1, 2}) {
		t.Errorf("Example 8, with fuel 5: %+v, put out: %v", o, l.out)
	}
}

// TestManyRuns: a program of three compartments, with many inputs.
func TestManyRuns(t *testing.T) {
	text := strings.Join([]string{
		"depth 2", "region 0 16 bytes #0102", "region 32 16 slots", "slot cap 0 16 0 15 rw 0 at 3",
		"comp", "again: in r1", "glt r1 17 4", "mov r4 r1", "call count", "out r1", "li r2 9", "blt r1 r2 again", "call last", "ret",
		"comp", "root r8 0 16 0 rw 0", "glt r1 16 5", "cinc r2 r8 r1", "mov r1 r2", "call keep", "lb r3 r2 0", "addi r3 r3 1", "sb r3 r2 0", "mov r1 r3", "ret",
		"comp", "root r9 32 48 32 cd 0", "sc r1 r9 0", "ret", "lc r1 r9 0", "caddr r1 r1", "ret",
		"gate main 0 0 -> int", "gate count 1 0 int -> int", "gate keep 2 0 cap 0 16 0 15 rw 0 ->", "gate last 2 2 -> int",
	}, ";")
	ends := map[api.End]int{}
	for seed := range uint64(60) {
		d := rolled(seed)
		var inputs []uint64
		for range d.IntN(of(d, 12, 60)) {
			inputs = append(inputs, d.Uint64N(3)*5)
		}
		if seed%2 == 0 {
			inputs = append(inputs, of(d, 16, 17, top))
		}
		o, l := checkBoth(t, fmt.Sprintf("the program of three compartments, %d", seed), text, nil, inputs, 400)
		ends[o.End]++
		if o.End == api.Halted && (o.Value%5 != 0 || o.Value > 10 || len(l.out) == 0 || l.out[len(l.out)-1] != 9) {
			t.Errorf("T2: %+v, put out %v", o, l.out)
		}
	}
	if ends[api.Halted] < 5 || ends[api.Starved] < 5 || ends[api.Guarded] < 5 {
		t.Errorf("T2: ends %v: the inputs are too narrow", ends)
	}
}
