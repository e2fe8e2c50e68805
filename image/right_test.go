package image_test

import (
	"fmt"
	"math"
	"slices"
	"strings"
	"testing"

	"paddock/api"
	"paddock/image"
	"paddock/instr"
)

// change is what is done to a program, and what Right says then.
type change struct {
	what string
	do   func(m *api.Image)
	want api.Errno
}

func checkChanges(t *testing.T, of func() api.Image, l []change) {
	t.Helper()
	for _, c := range l {
		m := of()
		c.do(&m)
		checkRight(t, c.what, m, c.want)
		if s, e := image.Encode(m); e != c.want || (s == "") != (e != api.OK) {
			t.Errorf("4.8: Encode of %s: %d bytes, %d, want %d", c.what, len(s), e, c.want)
		}
	}
}

func TestRightPrograms(t *testing.T) {
	checkRight(t, "least", least(), api.OK)
	checkRight(t, "rich", rich(), api.OK)
	checkRight(t, "nothing", api.Image{}, api.ErrCount)
}

func TestRightExamples(t *testing.T) {
	checkChanges(t, least, []change{
		{"a second gate of a compartment 1", func(m *api.Image) { m.Gates = append(m.Gates, api.Gate{Comp: 1}) }, api.ErrGate},
		{"a root r7", func(m *api.Image) { m.Comps[0].Roots = []api.Root{{Reg: 7}} }, api.ErrRoot},
		{"a region in another one", func(m *api.Image) { m.Regions = []api.Region{{Len: 32}, {Base: 16, Len: 16}} }, api.ErrRegion},
		{"JMP behind the code", func(m *api.Image) { m.Comps[0].Code[0] = api.Inst{Op: api.JMP, Imm: 1} }, api.ErrTarget},
		{"a slot of integers", func(m *api.Image) { m.Regions = []api.Region{{Len: 16, Slots: make([]api.Slot, 1)}} }, api.ErrSlot},
		{"an argument {Hi 5}", func(m *api.Image) { m.Gates[0].Args = []api.Type{{Hi: 5}} }, api.ErrType},
	})
}

func TestRightCounts(t *testing.T) {
	var l []change
	add := func(name string, n int, want api.Errno, do func(m *api.Image)) {
		l = append(l, change{fmt.Sprintf("%d %s", n, name), do, want})
	}
	for n, want := range map[int]api.Errno{0: api.OK, 1: api.OK, 8: api.OK, 9: api.ErrCount, 65: api.ErrCount, 4097: api.ErrCount} {
		add("regions", n, want, func(m *api.Image) {
			m.Regions = make([]api.Region, n)
			for i := range m.Regions {
				m.Regions[i] = api.Region{Base: uint64(16 * i), Len: 16}
			}
		})
	}
	for n, want := range map[int]api.Errno{0: api.ErrCount, 1: api.OK, 2: api.OK, 4: api.OK, 5: api.ErrCount, 300: api.ErrCount} {
		add("compartments", n, want, func(m *api.Image) { m.Comps = slices.Repeat(m.Comps, n) })
	}
	for n, want := range map[int]api.Errno{0: api.ErrCount, 1: api.OK, 2: api.OK, 16: api.OK, 17: api.ErrCount, 300: api.ErrCount} {
		add("gates", n, want, func(m *api.Image) { m.Gates = slices.Repeat(m.Gates, n) })
	}
	for n, want := range map[int]api.Errno{math.MinInt: api.ErrCount, -1: api.ErrCount, 0: api.ErrCount, 1: api.OK, 2: api.OK, 16: api.OK, 17: api.ErrCount, 257: api.ErrCount, math.MaxInt: api.ErrCount} {
		add("deep", n, want, func(m *api.Image) { m.Depth = n })
	}
	for n, want := range map[int]api.Errno{0: api.ErrCount, 1: api.OK, 2: api.OK, 400: api.OK, 401: api.ErrCount, 65537: api.ErrCount} {
		add("instructions", n, want, func(m *api.Image) { m.Comps[0].Code = slices.Repeat(m.Comps[0].Code, n) })
	}
	for n, want := range map[int]api.Errno{0: api.OK, 1: api.OK, 7: api.OK, 8: api.ErrGate, 256: api.ErrGate} {
		add("arguments", n, want, func(m *api.Image) { m.Gates[0].Args = make([]api.Type, n) })
		add("results", n, want, func(m *api.Image) { m.Gates[0].Results = make([]api.Type, n) })
		add("arguments and results", n, want, func(m *api.Image) { m.Gates[0].Args, m.Gates[0].Results = make([]api.Type, n), make([]api.Type, n) })
	}
	checkChanges(t, least, l)
}

func regions(l ...api.Region) func(m *api.Image) {
	return func(m *api.Image) { m.Regions = l }
}

func TestRightPlaceOfARegion(t *testing.T) {
	for _, c := range []struct {
		base, length uint64
		want         api.Errno
	}{
		{0, 16, api.OK}, {16, 16, api.OK}, {0, 65536, api.OK}, {16, 65520, api.OK}, {65520, 16, api.OK}, {32768, 32768, api.OK},
		{0, 0, api.ErrRegion}, {16, 0, api.ErrRegion}, {0, 1, api.ErrRegion}, {0, 8, api.ErrRegion}, {0, 15, api.ErrRegion}, {0, 17, api.ErrRegion}, {0, 24, api.ErrRegion},
		{1, 16, api.ErrRegion}, {8, 16, api.ErrRegion}, {15, 16, api.ErrRegion}, {17, 16, api.ErrRegion}, {8, 24, api.ErrRegion},
		{0, 65552, api.ErrRegion}, {16, 65536, api.ErrRegion}, {65520, 32, api.ErrRegion}, {65536, 16, api.ErrRegion}, {65536, 0, api.ErrRegion}, {65552, 16, api.ErrRegion},
		{16, top - 15, api.ErrRegion}, {32, top - 15, api.ErrRegion}, {0, top - 15, api.ErrRegion}, {top - 15, 16, api.ErrRegion}, {top - 15, 32, api.ErrRegion}, {1 << 32, 16, api.ErrRegion}, {0, 1 << 32, api.ErrRegion}, {0, 1<<32 + 16, api.ErrRegion},
	} {
		checkChanges(t, least, []change{{fmt.Sprintf("a region {%d, %d}", c.base, c.length), regions(api.Region{Base: c.base, Len: c.length}), c.want}})
	}
}

func TestRightRegionsRise(t *testing.T) {
	ahead := api.Region{Base: 64, Len: 32}
	slots := api.Region{Base: 64, Len: 32, Slots: []api.Slot{{Type: wide(), Cursor: wide().Lo}, {Type: wide(), Cursor: wide().Hi}}}
	for _, c := range []struct {
		base, length uint64
		want         api.Errno
	}{
		{96, 16, api.OK}, {112, 16, api.OK}, {65520, 16, api.OK}, {96, 65440, api.OK},
		{64, 32, api.ErrRegion}, {64, 16, api.ErrRegion}, {80, 16, api.ErrRegion}, {80, 64, api.ErrRegion}, {0, 16, api.ErrRegion}, {48, 16, api.ErrRegion}, {32, 64, api.ErrRegion}, {0, 65536, api.ErrRegion}, {65536, 16, api.ErrRegion}, {96, 65456, api.ErrRegion},
	} {
		r := api.Region{Base: c.base, Len: c.length}
		what := fmt.Sprintf("a region {%d, %d} behind {64, 32}", c.base, c.length)
		checkChanges(t, least, []change{
			{what, regions(ahead, r), c.want},
			{what + " of slots", regions(slots, r), c.want},
			{what + " and another one", regions(api.Region{Base: 32, Len: 32}, ahead, r), c.want},
		})
	}
}

func TestRightData(t *testing.T) {
	for data, want := range map[string]api.Errno{
		"": api.OK, "a": api.OK, "\x00a": api.OK, "a\x00b": api.OK, "\x01": api.OK, "\xff": api.OK,
		strings.Repeat("x", 31): api.OK, strings.Repeat("x", 32): api.OK, strings.Repeat("\x00", 31) + "x": api.OK,
		strings.Repeat("x", 33): api.ErrRegion, strings.Repeat("x", 48): api.ErrRegion, strings.Repeat("x", 66000): api.ErrRegion,
		"\x00": api.ErrRegion, "a\x00": api.ErrRegion, "\x00\x00": api.ErrRegion, strings.Repeat("x", 31) + "\x00": api.ErrRegion,
	} {
		what := fmt.Sprintf("Data of %d bytes", len(data))
		checkChanges(t, least, []change{
			{what, regions(api.Region{Base: 16, Len: 32, Data: data}), want},
			{what + " and an empty list of slots", regions(api.Region{Base: 16, Len: 32, Data: data, Slots: []api.Slot{}}), want},
			{what + " in the second region", regions(api.Region{Len: 16}, api.Region{Base: 16, Len: 32, Data: data}), want},
		})
	}
}

func TestRightSlots(t *testing.T) {
	one := api.Slot{Type: wide(), Cursor: wide().Lo}
	of := func(length uint64, n int, data string) func(m *api.Image) {
		return regions(api.Region{Base: 16, Len: length, Data: data, Slots: slices.Repeat([]api.Slot{one}, n)})
	}
	checkChanges(t, least, []change{
		{"one slot", of(16, 1, ""), api.OK},
		{"three slots", of(48, 3, ""), api.OK},
		{"two slots in 16 bytes", of(16, 2, ""), api.ErrRegion},
		{"two slots in 48 bytes", of(48, 2, ""), api.ErrRegion},
		{"two slots in no bytes", of(0, 2, ""), api.ErrRegion},
		{"Data beside a slot", of(16, 1, "x"), api.ErrRegion},
		{"a nought beside a slot", of(16, 1, "\x00"), api.ErrRegion},
		{"Data beside slots that would have room for it", of(48, 3, "0123456789abcdef"), api.ErrRegion},
	})
	all := least()
	all.Regions = []api.Region{{Len: api.MaxMem, Slots: slices.Repeat([]api.Slot{one}, api.MaxMem/api.Granule)}}
	checkRight(t, "memory full of slots", all, api.OK)
	all.Regions[0].Slots = append(all.Regions[0].Slots, one)
	checkRight(t, "more slots than memory has granules", all, api.ErrRegion)
}

func TestRightSlot(t *testing.T) {
	between := api.Type{Cap: true, Lo: 5, Hi: 9}
	for _, c := range []struct {
		slot api.Slot
		want api.Errno
	}{
		{api.Slot{Type: api.Type{Cap: true}}, api.OK},
		{api.Slot{Type: api.Type{Cap: true}, Cursor: 1}, api.ErrSlot},
		{api.Slot{}, api.ErrSlot},
		{api.Slot{Type: api.Type{Hi: 9}, Cursor: 5}, api.ErrSlot},
		{api.Slot{Type: between, Cursor: 4}, api.ErrSlot},
		{api.Slot{Type: between, Cursor: 5}, api.OK},
		{api.Slot{Type: between, Cursor: 7}, api.OK},
		{api.Slot{Type: between, Cursor: 9}, api.OK},
		{api.Slot{Type: between, Cursor: 10}, api.ErrSlot},
		{api.Slot{Type: between, Cursor: top}, api.ErrSlot},
		{api.Slot{Type: api.Type{Cap: true, Lo: 9, Hi: 5}, Cursor: 7}, api.ErrSlot},
		{api.Slot{Type: api.Type{Cap: true, Hi: top}, Cursor: top}, api.OK},
		{api.Slot{Type: api.Type{Cap: true, Lo: 1, Hi: top}}, api.ErrSlot},
		{api.Slot{Type: api.Type{Cap: true, Base: 1 << 31, End: 1 << 32, Perms: 3, Seal: 15}}, api.OK},
		{api.Slot{Type: api.Type{Cap: true, Perms: api.Exec}}, api.ErrSlot},
	} {
		for n := range 3 {
			l := slices.Repeat([]api.Slot{{Type: wide(), Cursor: wide().Hi}}, 3)
			l[n] = c.slot
			checkChanges(t, least, []change{{fmt.Sprintf("the slot %+v, at %d", c.slot, n), regions(api.Region{Len: 48, Slots: l}), c.want}})
		}
	}
}

func roots(l ...api.Root) func(m *api.Image) {
	return func(m *api.Image) { m.Comps[1].Roots = l }
}

func TestRightRegistersOfRoots(t *testing.T) {
	for reg := -2; reg < 20; reg++ {
		want := api.ErrRoot
		if 8 <= reg && reg <= 15 {
			want = api.OK
		}
		checkChanges(t, rich, []change{{fmt.Sprintf("a root r%d", reg), roots(api.Root{Reg: reg}), want}})
	}
	var all []api.Root
	for reg := 8; reg <= 15; reg++ {
		all = append(all, api.Root{Reg: reg})
	}
	back := slices.Clone(all)
	slices.Reverse(back)
	checkChanges(t, rich, []change{
		{"a root of the greatest number", roots(api.Root{Reg: math.MaxInt}), api.ErrRoot},
		{"a root of the least number", roots(api.Root{Reg: math.MinInt}), api.ErrRoot},
		{"no roots", roots(), api.OK},
		{"all roots", roots(all...), api.OK},
		{"all roots from behind", roots(back...), api.ErrRoot},
		{"all roots and one more", roots(append(all, api.Root{Reg: 16})...), api.ErrRoot},
		{"both ends", roots(api.Root{Reg: 8}, api.Root{Reg: 15}), api.OK},
		{"a root twice", roots(api.Root{Reg: 8}, api.Root{Reg: 8}), api.ErrRoot},
		{"the last one twice", roots(api.Root{Reg: 15}, api.Root{Reg: 15}), api.ErrRoot},
		{"one below that ahead", roots(api.Root{Reg: 10}, api.Root{Reg: 9}), api.ErrRoot},
		{"one below that ahead, behind others", roots(api.Root{Reg: 8}, api.Root{Reg: 12}, api.Root{Reg: 10}), api.ErrRoot},
		{"roots of two compartments that do not rise", func(m *api.Image) {
			m.Comps[0].Roots = []api.Root{{Reg: 12}}
			m.Comps[1].Roots = []api.Root{{Reg: 12}}
		}, api.OK},
	})
}

func TestRightCapabilitiesOfRoots(t *testing.T) {
	for _, c := range []struct {
		c    api.Cap
		want api.Errno
	}{
		{api.Cap{}, api.OK},
		{api.Cap{Cursor: top}, api.OK},
		{api.Cap{Base: 5, End: 5}, api.OK},
		{api.Cap{Base: 6, End: 5}, api.ErrRoot},
		{api.Cap{End: 1 << 32}, api.OK},
		{api.Cap{End: 1<<32 + 1}, api.ErrRoot},
		{api.Cap{Base: 1 << 31, End: 1 << 32, Cursor: 3, Perms: 111, Seal: 15}, api.OK},
		{api.Cap{Perms: api.Exec}, api.ErrRoot},
		{api.Cap{Perms: api.AllPerms}, api.ErrRoot},
		{api.Cap{Perms: 128}, api.ErrRoot},
		{api.Cap{Seal: 16}, api.ErrRoot},
		{api.Cap{Seal: -1}, api.ErrRoot},
	} {
		what := fmt.Sprintf("a root %+v", c.c)
		checkChanges(t, rich, []change{
			{what, roots(api.Root{Reg: 8, Cap: c.c}), c.want},
			{what + " behind another one", roots(api.Root{Reg: 8}, api.Root{Reg: 9, Cap: c.c}), c.want},
		})
	}
}

func code(comp int, l ...api.Inst) func(m *api.Image) {
	return func(m *api.Image) { m.Comps[comp].Code = l }
}

// small is a program of two compartments, of two and of four instructions, with three gates.
func small() api.Image {
	ret := []api.Inst{{Op: api.RET}}
	return api.Image{Depth: 1, Comps: []api.Comp{{Code: slices.Repeat(ret, 2)}, {Code: slices.Repeat(ret, 4)}}, Gates: make([]api.Gate, 3)}
}

func TestRightTargets(t *testing.T) {
	for _, op := range []api.Op{api.JMP, api.BEQ, api.BNE, api.BLT, api.BGE, api.CPC, api.CALL} {
		for comp, instructions := range []int{2, 4} {
			there := instructions
			if op == api.CALL {
				there = 3
			}
			for imm, want := range map[int]api.Errno{0: api.OK, 1: api.OK, there - 1: api.OK, there: api.ErrTarget, there + 1: api.ErrTarget, math.MaxInt32: api.ErrTarget, math.MaxInt32 + 1: api.ErrField, -1: api.ErrField} {
				for at := range instructions {
					checkChanges(t, small, []change{{fmt.Sprintf("%s to %d, at %d of compartment %d", instr.Name(op), imm, at, comp), func(m *api.Image) { m.Comps[comp].Code[at] = api.Inst{Op: op, Imm: imm} }, want}})
				}
			}
		}
	}
}

// TestRightOtherNumbers: an Imm that is no target may be greater than there are instructions and gates.
func TestRightOtherNumbers(t *testing.T) {
	for op := range 256 {
		op := api.Op(op)
		shape := instr.Shape(op)
		switch {
		case instr.Name(op) == "":
			checkChanges(t, least, []change{{fmt.Sprintf("the operation %d", op), code(0, api.Inst{Op: op}), api.ErrOp}})
		case strings.ContainsAny(shape, "tg"):
			checkChanges(t, least, []change{{fmt.Sprintf("%s to 2", instr.Name(op)), code(0, api.Inst{Op: op, Imm: 2}), api.ErrTarget}})
		case strings.ContainsAny(shape, "inps") || op == api.TRAP:
			checkChanges(t, least, []change{{fmt.Sprintf("%s with 2", instr.Name(op)), code(0, api.Inst{Op: op, Imm: 2}), api.OK}})
		default:
			checkChanges(t, least, []change{
				{fmt.Sprintf("%s", instr.Name(op)), code(0, api.Inst{Op: op}), api.OK},
				{fmt.Sprintf("%s with 2", instr.Name(op)), code(0, api.Inst{Op: op, Imm: 2}), api.ErrField},
			})
		}
	}
}

func TestRightInstructions(t *testing.T) {
	ret, none, wrong, away := api.Inst{Op: api.RET}, api.Inst{Op: 14}, api.Inst{Op: api.MOV, C: 1}, api.Inst{Op: api.JMP, Imm: 9}
	for _, comp := range []int{0, 1} {
		checkChanges(t, rich, []change{
			{"no operation", code(comp, none, ret, ret, ret), api.ErrOp},
			{"nothing at all", code(comp, ret, ret, ret, api.Inst{}), api.ErrOp},
			{"a wrong field", code(comp, ret, ret, wrong, ret), api.ErrField},
			{"a wrong field and an Imm that is no target", code(comp, api.Inst{Op: api.JMP, A: 1, Imm: 9}, ret, ret, ret), api.ErrField},
			{"an Imm that is no target, ahead of no operation", code(comp, ret, away, none, ret), api.ErrTarget},
			{"an Imm that is no target, ahead of a wrong field", code(comp, ret, away, wrong, ret), api.ErrTarget},
			{"no operation, ahead of all else", code(comp, none, away, wrong, ret), api.ErrOp},
			{"a wrong field, ahead of all else", code(comp, ret, wrong, away, none), api.ErrField},
		})
	}
}

func gate(g api.Gate) func(m *api.Image) {
	return func(m *api.Image) { m.Gates[1] = g }
}

func TestRightGates(t *testing.T) {
	for _, c := range []struct {
		comp, entry int
		want        api.Errno
	}{
		{0, 0, api.OK}, {0, 1, api.OK}, {0, 2, api.ErrGate}, {0, 3, api.ErrGate}, {0, -1, api.ErrGate},
		{1, 0, api.OK}, {1, 3, api.OK}, {1, 4, api.ErrGate}, {1, -1, api.ErrGate}, {1, math.MaxInt, api.ErrGate}, {1, math.MinInt, api.ErrGate},
		{2, 0, api.ErrGate}, {3, 0, api.ErrGate}, {-1, 0, api.ErrGate}, {math.MaxInt, 0, api.ErrGate}, {math.MinInt, 0, api.ErrGate}, {-1, -1, api.ErrGate},
	} {
		checkChanges(t, small, []change{{fmt.Sprintf("a gate to %d, %d", c.comp, c.entry), gate(api.Gate{Comp: c.comp, Entry: c.entry}), c.want}})
	}
	wrong := []api.Type{{}, {Hi: 5}}
	checkChanges(t, small, []change{
		{"a gate with wrong arguments", gate(api.Gate{Args: wrong}), api.ErrType},
		{"a gate with wrong results", gate(api.Gate{Args: []api.Type{wide()}, Results: wrong}), api.ErrType},
		{"a gate to nothing with wrong arguments", gate(api.Gate{Comp: 2, Args: wrong}), api.ErrGate},
		{"a gate of too many results with wrong arguments", gate(api.Gate{Args: wrong, Results: make([]api.Type, 8)}), api.ErrGate},
		{"a gate of too many arguments, wrong ones", gate(api.Gate{Args: slices.Repeat(wrong, 4)}), api.ErrGate},
	})
}

// faults are wrong things of a program, in the order in which Right looks at them.
func faults() []change {
	tooLong := func(comp int) func(m *api.Image) {
		return func(m *api.Image) {
			m.Comps[comp].Code = append(m.Comps[comp].Code, slices.Repeat([]api.Inst{{Op: api.RET}}, api.MaxCode)...)
		}
	}
	return []change{
		{"depth", func(m *api.Image) { m.Depth = 0 }, api.ErrCount},
		{"region 0", func(m *api.Image) { m.Regions[0].Data = "\x00" }, api.ErrRegion},
		{"slot 0", func(m *api.Image) { m.Regions[1].Slots[0].Cursor = 0 }, api.ErrSlot},
		{"region 2", func(m *api.Image) { m.Regions[2].Base = 0x1210 }, api.ErrRegion},
		{"root 0 of compartment 0", func(m *api.Image) { m.Comps[0].Roots[0].Reg = 7 }, api.ErrRoot},
		{"length of compartment 0", tooLong(0), api.ErrCount},
		{"operation 0 of compartment 0", func(m *api.Image) { m.Comps[0].Code[0].Op = 0 }, api.ErrOp},
		{"target 1 of compartment 0", func(m *api.Image) { m.Comps[0].Code[1].Imm = 2 }, api.ErrTarget},
		{"field 2 of compartment 0", func(m *api.Image) { m.Comps[0].Code[2].A = 1 }, api.ErrField},
		{"root 0 of compartment 1", func(m *api.Image) { m.Comps[1].Roots[0].Cap.Perms = api.Exec }, api.ErrRoot},
		{"length of compartment 1", tooLong(1), api.ErrCount},
		{"field 0 of compartment 1", func(m *api.Image) { m.Comps[1].Code[0].Imm = 1 }, api.ErrField},
		{"operation 1 of compartment 1", func(m *api.Image) { m.Comps[1].Code[1].Op = 99 }, api.ErrOp},
		{"gate 0", func(m *api.Image) { m.Gates[0].Comp = 2 }, api.ErrGate},
		{"argument of gate 0", func(m *api.Image) { m.Gates[0].Args[0].Hi = 5 }, api.ErrType},
		{"gate 1", func(m *api.Image) { m.Gates[1].Entry = -1 }, api.ErrGate},
		{"result of gate 1", func(m *api.Image) { m.Gates[1].Results[2].Seal = 16 }, api.ErrType},
	}
}

func TestRightFirstOfTwo(t *testing.T) {
	all := faults()
	checkChanges(t, rich, all)
	for i, first := range all {
		for _, second := range all[i+1:] {
			m := rich()
			second.do(&m)
			first.do(&m)
			checkRight(t, first.what+" and "+second.what, m, first.want)
		}
	}
}

// TestRightCountsFirst: each count is asked ahead of all that stands in the lists.
func TestRightCountsFirst(t *testing.T) {
	wrongRegion := func(m *api.Image) { m.Regions[0].Len = 0 }
	for _, c := range []change{
		{"regions", func(m *api.Image) { m.Regions = slices.Repeat(m.Regions, 3) }, api.ErrCount},
		{"no compartments", func(m *api.Image) { m.Comps = nil }, api.ErrCount},
		{"compartments", func(m *api.Image) { m.Comps = slices.Repeat(m.Comps, 3) }, api.ErrCount},
		{"no gates", func(m *api.Image) { m.Gates = nil }, api.ErrCount},
		{"gates", func(m *api.Image) { m.Gates = slices.Repeat(m.Gates, 9) }, api.ErrCount},
		{"depth", func(m *api.Image) { m.Depth = 17 }, api.ErrCount},
	} {
		m := rich()
		wrongRegion(&m)
		c.do(&m)
		checkRight(t, c.what+" and a wrong region", m, c.want)
	}
	checkChanges(t, rich, []change{
		{"no code and a wrong root", func(m *api.Image) { m.Comps[0].Code = nil; m.Comps[0].Roots[1].Reg = 16 }, api.ErrRoot},
		{"no code ahead of a wrong root", func(m *api.Image) { m.Comps[0].Code = nil; m.Comps[1].Roots[0].Reg = 16 }, api.ErrCount},
		{"a wrong slot in a region that is wrong, too", func(m *api.Image) { m.Regions[1].Slots[0] = api.Slot{}; m.Regions[1].Len = 48 }, api.ErrRegion},
		{"a wrong slot ahead of Data that ends with 0", func(m *api.Image) { m.Regions[1].Slots[1] = api.Slot{}; m.Regions[2].Data = "\x00" }, api.ErrSlot},
	})
}

// TestLeavesWhatIsHandedIn looks at a program behind each call.
func TestLeavesWhatIsHandedIn(t *testing.T) {
	for _, fault := range append(faults(), change{"nothing", func(m *api.Image) {}, api.OK}) {
		m, was := rich(), rich()
		fault.do(&m)
		fault.do(&was)
		image.Right(m)
		image.Encode(m)
		image.Copy(m)
		image.CodeCap(m, 0, 0)
		if !same(m, was) {
			t.Errorf("calls have changed a program with a wrong %s", fault.what)
		}
	}
}
