package erase_test

import (
	"slices"
	"strings"
	"testing"

	"paddock/api"
	"paddock/checker"
	"paddock/erase"
)

// TestExamples: those of the chapter, one by one.
func TestExamples(t *testing.T) {
	c := api.Cap{Base: 64, End: 128, Cursor: 96, Perms: api.Load}
	if a, b := erase.Value(api.Value{Tag: true, C: c}), erase.Value(api.Value{N: 5}); a != 96 || b != 5 {
		t.Errorf("Examples 1: %d, %d", a, b)
	}
	text := "depth 1;region 64 64 bytes;comp;root r8 64 128 96 r 0;cbase r1 r8;gin r8 4 7;cinci r2 r8 -3;lb r3 r8 0;ret;gate g 0 0 ->"
	got := taken(t, "Examples 2", parse(t, text)).Code[0]
	checkCode(t, "Examples 2", got, []api.FInst{{Op: api.FLI, A: 1, Imm: 64}, {Op: api.FNop}, {Op: api.FADDI, A: 2, B: 8, Imm: 1<<64 - 3}, {Op: api.FLB, A: 3, B: 8}, {Op: api.FRET}})
	got = taken(t, "Examples 2", parse(t, strings.Replace(text, "gin r8 4 7", "gin r8 40 7", 1))).Code[0]
	checkCode(t, "Examples 2, with 40", got, []api.FInst{{Op: api.FLI, A: 1, Imm: 64}, {Op: api.FGUARD, C: 7}, {Op: api.FTRAP}, {Op: api.FTRAP}, {Op: api.FTRAP}})
}

// example is one of the document's: a program, what the code of its first gate becomes, and how it runs.
type example struct {
	text     string
	becoming string
	args     []uint64
	inputs   []uint64
	want     api.Outcome
	out      []uint64
	touches  []api.Touch
}

func halted(n uint64, pc int) api.Outcome { return api.Outcome{End: api.Halted, Value: n, Pc: pc} }

func load(addr, size uint64) api.Touch { return api.Touch{Addr: addr, Size: size} }

const (
	reading = "depth 1;region 0 32 bytes #05060708;comp;root r8 0 32 0 r 0;in r1;glt r1 32 9;cinc r2 r8 r1;lb r3 r2 0;halt r3;gate main 0 0 ->"
	lent    = "depth 2;region 0 32 bytes #01020304;comp;root r8 0 32 0 rw 0;candp r1 r8 r;call peek;halt r1;comp;lb r1 r1 3;ret;gate main 0 0 ->;gate peek 1 0 cap 0 32 0 0 r 0 -> int"
	sealing = "depth 2;region 0 16 bytes #2a;comp;root r8 0 16 0 r 0;root r9 0 16 5 s 0;cseal r1 r8 r9;call keep;halt r1;comp;root r10 0 16 5 u 0;cunseal r2 r1 r10;lb r1 r2 0;ret;gate main 0 0 ->;gate keep 1 0 cap 0 16 0 0 r 5 -> int"
)

func examples() map[string]example {
	read := "fin a1;fglt a1 c9 i32;fadd a2 b8 c1;flb a3 b2;fhalt a3"
	return map[string]example{
		"1":                   {reading, read, nil, []uint64{2}, halted(7, 4), nil, []api.Touch{load(2, 1)}},
		"1, with 40":          {reading, read, nil, []uint64{40}, api.Outcome{End: api.Guarded, Value: 9, Pc: 1}, nil, nil},
		"1, without an input": {reading, read, nil, nil, api.Outcome{End: api.Starved}, nil, nil},
		"3": {"depth 1;region 0 32 bytes #05060708;comp;root r8 0 32 0 r 0;li r1 0;li r2 0;li r3 4;next: bge r2 r3 done;glt r2 32 9;cinc r4 r8 r2;lb r5 r4 0;add r1 r1 r5;addi r2 r2 1;jmp next;done: halt r1;gate main 0 0 ->",
			"fli a1;fli a2;fli a3 i4;fbge a2 b3 i10;fnop;fadd a4 b8 c2;flb a5 b4;fadd a1 b1 c5;faddi a2 b2 i1;fjmp i3;fhalt a1",
			nil, nil, halted(26, 10), nil, []api.Touch{load(0, 1), load(1, 1), load(2, 1), load(3, 1)}},
		"4": {lent, "fmov a1 b8;fcall i1;fhalt a1", nil, nil, halted(4, 2), nil, []api.Touch{load(3, 1)}},
		"5": {sealing, "fmov a1 b8;fcall i1;fhalt a1", nil, nil, halted(42, 2), nil, []api.Touch{load(0, 1)}},
		"6": {"depth 1;region 0 16 bytes #07;region 16 32 slots;slot cap 0 16 0 15 rw 0 at 0;slot cap 0 16 0 15 rw 0 at 9;comp;root r8 16 48 16 cd 0;lc r1 r8 0;lc r2 r8 16;sc r1 r8 16;lc r3 r8 16;csame r4 r1 r3;cbase r5 r2;caddr r6 r3;out r4;out r5;out r6;halt r0;gate main 0 0 ->",
			"flc a1 b8;flc a2 b8 i16;fsc a1 b8 i16;flc a3 b8 i16;fseq a4 b1 c3;fli a5;fmov a6 b3;fout a4;fout a5;fout a6;fhalt",
			nil, nil, halted(0, 10), []uint64{1, 0, 0}, []api.Touch{load(16, 16), load(32, 16), {Store: true, Addr: 32, Size: 16}, load(32, 16)}},
		"7": {"depth 1;comp;cpc r1 3;jc r1;trap 7;ctag r2 r1;halt r2;gate main 0 0 ->", "fli a1 i1048600;fjmp i3;ftrap;fli a2 i1;fhalt a2", nil, nil, halted(1, 4), nil, nil},
		"8": {"depth 3;comp;addi r1 r1 1;out r1;call main;ret;gate main 0 0 int ->", "faddi a1 b1 i1;fout a1;fcall;fret", []uint64{0}, nil, api.Outcome{End: api.Overflow, Pc: 2}, []uint64{1, 2, 3, 4}, nil},
		"9": {"depth 1;comp;top: jmp top;gate main 0 0 ->", "fjmp", nil, nil, api.Outcome{End: api.Spent}, nil, nil},
	}
}

// TestExamplesOfTheWhole: what the document says of bare addresses in its own examples.
func TestExamplesOfTheWhole(t *testing.T) {
	for name, x := range examples() {
		m := parse(t, x.text)
		p := taken(t, "Example "+name, m)
		checkCode(t, "Example "+name, p.Code[0], bare(t, x.becoming))
		r := begin(t, m, p, 0, x.args, x.inputs)
		if o := r.to(t, 1000, func(s api.Snap) {}); o != x.want {
			t.Errorf("Example %s: %+v, want %+v", name, o, x.want)
		}
		if !slices.Equal(r.second.out, x.out) || !slices.Equal(r.second.touches, x.touches) {
			t.Errorf("Example %s: put out: %v, touched: %v", name, r.second.out, r.second.touches)
		}
	}
}

// TestExamplesRefused: they have no Program.
func TestExamplesRefused(t *testing.T) {
	for name, text := range map[string]string{
		"2":             strings.Replace(reading, "glt r1 32 9;", "", 1),
		"4, a store":    strings.Replace(lent, "lb r1 r1 3", "sb r0 r1 3", 1),
		"4, all lent":   strings.Replace(lent, "candp r1 r8 r", "mov r1 r8", 1),
		"5, not opened": strings.Replace(sealing, "root r10 0 16 5 u 0;cunseal r2 r1 r10;lb r1 r2 0", "lb r1 r1 0", 1),
		"9":             "depth 1;comp;addi r1 r1 1;gate main 0 0 ->",
	} {
		m := parse(t, text)
		r := checker.Check(m)
		if r.Reason == api.Fine {
			t.Errorf("Example %s: it is taken", name)
		}
		checkNone(t, "Example "+name, m, r)
		r.Reason = api.Fine
		checkNone(t, "Example "+name+", said to be Fine", m, r)
	}
}
