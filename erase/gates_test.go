package erase_test

import (
	"strings"
	"testing"

	"paddock/api"
)

// TestMemory: data, slots, and noughts; and what roots speak of is not looked at.
func TestMemory(t *testing.T) {
	m := parse(t, "depth 1;region 16 32 bytes #616200ff;region 48 32 slots;slot cap 0 64 0 63 rw 0 at 7;slot cap 0 64 0 18446744073709551615 r 5 at 18446744073709551614;"+
		"region 65520 16 bytes #00000000000000000000000000000009;comp;root r8 0 32 3 rw 0;root r15 128 256 200 - 0;trap 1;gate g 0 0 ->")
	want := make([]byte, api.MaxMem)
	copy(want[16:], "ab\x00\xff")
	want[48] = 7
	copy(want[64:], "\xfe\xff\xff\xff\xff\xff\xff\xff")
	want[65535] = 9
	if got := taken(t, "12.3", m).Memory; got != string(want) {
		t.Errorf("12.3: Memory has %d bytes, and is not what the regions say", len(got))
	}
	none := parse(t, "depth 1;comp;trap 1;gate g 0 0 ->")
	if got := taken(t, "12.3", none).Memory; got != strings.Repeat("\x00", api.MaxMem) {
		t.Errorf("12.3: without regions Memory has %d bytes, not noughts alone", len(got))
	}
}

func TestDepth(t *testing.T) {
	for depth := 1; depth <= api.MaxDepth; depth++ {
		m := parse(t, "depth 1;comp;trap 1;gate g 0 0 ->")
		m.Depth = depth
		if got := taken(t, "12.3", m).Depth; got != depth {
			t.Errorf("12.3: Depth is %d, want %d", got, depth)
		}
	}
}

// TestGates: of each its own entry, counts and roots, in their order.
func TestGates(t *testing.T) {
	m := parse(t, "depth 3;comp;root r8 0 32 5 r 0;root r11 0 32 18446744073709551615 - 3;root r15 64 96 64 cd 0;a: out r1;b: li r1 0;li r2 0;ret;comp;trap 1;trap 2;trap 3;comp;root r9 0 1 0 r 0;root r10 1 2 9 w 0;trap 4;"+
		"gate f 1 2 int cap 0 9 0 9 r 0 -> int;gate g 0 a int -> int int;gate h 0 b ->;gate k 2 0 int int int int int int int -> ;gate l 1 0 -> int int int int int int int")
	roots := func(at map[int]uint64) (l [api.Regs]uint64) {
		for k, n := range at {
			l[k] = n
		}
		return l
	}
	first := roots(map[int]uint64{8: 5, 11: top, 15: 64})
	want := []api.FEntry{
		{Entry: 2, Args: 2, Results: 1},
		{Entry: 0, Args: 1, Results: 2, Roots: first},
		{Entry: 1, Roots: first},
		{Entry: 0, Args: 7, Roots: roots(map[int]uint64{10: 9})},
		{Entry: 0, Results: 7},
	}
	p := taken(t, "12.3", m)
	if len(p.Gates) != len(want) || len(p.Code) != len(want) {
		t.Fatalf("12.3: %d gates, %d rows of code, want %d", len(p.Gates), len(p.Code), len(want))
	}
	for k, g := range p.Gates {
		if g != want[k] {
			t.Errorf("12.3: the gate %d is %+v, want %+v", k, g, want[k])
		}
		if code := m.Comps[m.Gates[k].Comp].Code; len(p.Code[k]) != len(code) {
			t.Errorf("12.4: the gate %d has %d instructions, want %d", k, len(p.Code[k]), len(code))
		}
	}
}

// TestEachRoot: in each register that may be one, alone and with all others.
func TestEachRoot(t *testing.T) {
	all := parse(t, "depth 1;comp;trap 1;gate g 0 0 ->")
	var want [api.Regs]uint64
	for reg := api.Roots; reg < api.Regs; reg++ {
		root := api.Root{Reg: reg, Cap: api.Cap{Base: 100, End: 200, Cursor: uint64(1000 + reg), Perms: rw, Seal: reg}}
		m := parse(t, "depth 1;comp;trap 1;gate g 0 0 ->")
		m.Comps[0].Roots = []api.Root{root}
		var one [api.Regs]uint64
		one[reg] = uint64(1000 + reg)
		if got := taken(t, "12.3", m).Gates[0].Roots; got != one {
			t.Errorf("12.3: with the root r%d alone: %v", reg, got)
		}
		all.Comps[0].Roots = append(all.Comps[0].Roots, root)
		want[reg] = uint64(1000 + reg)
	}
	if got := taken(t, "12.3", all).Gates[0].Roots; got != want {
		t.Errorf("12.3: with all roots: %v, want %v", got, want)
	}
}
