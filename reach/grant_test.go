package reach_test

import (
	"slices"
	"strings"
	"testing"

	"paddock/api"
	"paddock/image"
	"paddock/reach"
)

// checkGrant asks for what a compartment is granted; want may stand in any order.
func checkGrant(t *testing.T, what string, m api.Image, comp int, want ...api.Cap) {
	t.Helper()
	slices.SortFunc(want, byWords)
	checkCaps(t, "14.6: "+what, reach.Grant(m, comp), want)
}

func TestRootsAndCode(t *testing.T) {
	m := parse(t, "depth 1;comp;root r8 0 64 5 rw 0;root r15 16 32 9999 su 3;li r1 1;li r1 2;ret;comp;root r8 0 64 6 w 0;ret;comp;ret;gate a 0 2 ->")
	checkGrant(t, "roots as they are", m, 0, codeOf(0, 3), of(0, 64, 5, rw, 0), of(16, 32, 9999, api.Seal|api.Unseal, 3))
	checkGrant(t, "another compartment's", m, 1, codeOf(1, 1), of(0, 64, 6, api.Store, 0))
	checkGrant(t, "without roots and gates", m, 2, codeOf(2, 1))
}

// TestRootsThatAreAlike: each capability once.
func TestRootsThatAreAlike(t *testing.T) {
	m := parse(t, "depth 1;comp;root r8 0 64 5 rw 0;root r9 0 64 5 rw 0;root r10 0 64 6 rw 0;ret;gate a 0 0 cap 0 64 5 5 rw 0 ->;gate b 0 0 cap 0 64 5 9 rw 0 ->")
	checkGrant(t, "each once", m, 0, codeOf(0, 1), of(0, 64, 5, rw, 0), of(0, 64, 6, rw, 0))
}

// gated has gates of which each argument and result is another type: which by its first number.
func gated(code string) string {
	return "depth 2;comp;" + code + ";comp;ret;" +
		"gate own 0 0 int cap 100 200 7 9 r 0 int cap 101 200 7 9 r 0 -> cap 110 200 7 9 r 0 int;" +
		"gate more 0 0 cap 102 200 0 0 r 0 -> cap 112 200 7 9 r 0;" +
		"gate other 1 0 cap 120 200 7 9 r 0 int -> int cap 130 200 7 9 r 0 cap 131 200 7 9 - 4;" +
		"gate last 1 0 cap 121 200 7 9 r 0 -> cap 132 200 8 9 r 0;" +
		"gate ints 1 0 int int -> int"
}

func at7(base uint64) api.Cap { return of(base, 200, 7, api.Load, 0) }

// TestArgumentsAndResults: the arguments of its gates, not their results; of gates that it calls the results, not the arguments; of others nothing; of integers nothing; pointing to Lo.
func TestArgumentsAndResults(t *testing.T) {
	own := caps(at7(100), at7(101), of(102, 200, 0, api.Load, 0))
	other := caps(at7(130), of(131, 200, 7, 0, 4))
	last := of(132, 200, 8, api.Load, 0)
	m := parse(t, gated("ret"))
	checkGrant(t, "arguments alone", m, 0, append(caps(codeOf(0, 1)), own...)...)
	checkGrant(t, "arguments alone", m, 1, codeOf(1, 1), at7(120), at7(121))
	m = parse(t, gated("call other;ret"))
	checkGrant(t, "a call", m, 0, append(append(caps(codeOf(0, 2)), own...), other...)...)
	checkGrant(t, "called by another one", m, 1, codeOf(1, 1), at7(120), at7(121))
	m = parse(t, gated("call last;call other;call last;call ints;ret"))
	checkGrant(t, "calls, one of them twice", m, 0, append(append(caps(codeOf(0, 5), last), own...), other...)...)
	m = parse(t, gated("call ints;ret"))
	checkGrant(t, "a call that answers integers", m, 0, append(caps(codeOf(0, 2)), own...)...)
	m = parse(t, gated("call own;ret"))
	checkGrant(t, "a call of its own gate", m, 0, append(caps(codeOf(0, 2), at7(110)), own...)...)
	m = parse(t, gated("jmp 2;call last;ret;call more"))
	checkGrant(t, "calls that nobody comes to", m, 0, append(caps(codeOf(0, 4), last, at7(112)), own...)...)
	m = parse(t, gated("jmp 3;li r1 3;trap 3;ret"))
	checkGrant(t, "other instructions with the number of a gate", m, 0, append(caps(codeOf(0, 4)), own...)...)
}

// slots: the places 64 and 80, and from 112 on three; root is that of the one compartment.
func slots(roots string) string {
	return "depth 1;region 0 64 bytes #01;region 64 32 slots;slot cap 0 16 2 9 r 0 at 4;slot cap 16 32 20 29 rw 3 at 22;" +
		"region 96 16 bytes;region 112 48 slots;slot cap 64 80 60 70 c 0 at 64;slot cap 3 4 1 3 u 6 at 3;slot cap 5 6 0 0 u 0 at 0;" +
		"comp;" + roots + "ret;gate a 0 0 ->"
}

// What the slots stand for.
func shownAt() map[uint64]api.Cap {
	return map[uint64]api.Cap{64: of(0, 16, 2, api.Load, 0), 80: of(16, 32, 20, rw, 3), 112: of(64, 80, 60, api.LoadCap, 0), 128: of(3, 4, 1, api.Unseal, 6), 144: of(5, 6, 0, api.Unseal, 0)}
}

// TestSlotsThatAreAllWithin: pointing to Lo, wherever what lies there points.
func TestSlotsThatAreAllWithin(t *testing.T) {
	at := shownAt()
	for bounds, want := range map[string][]api.Cap{
		"64 80": caps(at[64]), "65 80": nil, "64 79": nil, "63 81": caps(at[64]), "64 95": caps(at[64]), "64 96": caps(at[64], at[80]), "65 96": caps(at[80]),
		"80 112": caps(at[80]), "96 112": nil, "0 64": nil, "0 65": nil, "0 80": caps(at[64]), "81 112": nil, "96 127": nil, "112 127": nil,
		"96 128": caps(at[112], at[64]), "128 144": caps(at[128]), "129 160": caps(at[144]), "144 160": caps(at[144]), "144 4294967296": caps(at[144]), "145 4294967296": nil,
		"112 160": caps(at[112], at[128], at[144], at[64]), "160 176": nil, "64 64": nil,
		"0 4294967296": caps(at[64], at[80], at[112], at[128], at[144]),
	} {
		m := parse(t, slots("root r8 "+bounds+" 0 c 0;"))
		root := m.Comps[0].Roots[0].Cap
		checkGrant(t, "slots from "+bounds, m, 0, append(want, root, codeOf(0, 1))...)
		for _, p := range []string{"-", "rwdsu", "d", "r"} {
			m := parse(t, slots("root r8 "+bounds+" 0 "+p+" 0;"))
			checkGrant(t, "without LoadCap", m, 0, m.Comps[0].Roots[0].Cap, codeOf(0, 1))
		}
		m = parse(t, slots("root r8 "+bounds+" 0 c 4;"))
		checkGrant(t, "sealed", m, 0, m.Comps[0].Roots[0].Cap, codeOf(0, 1))
	}
}

// TestGrantOfWhatIsOpened: and what that shows and opens, and so on.
func TestGrantOfWhatIsOpened(t *testing.T) {
	at := shownAt()
	six, shut := of(6, 7, 9, api.Unseal, 0), of(128, 144, 0, api.LoadCap, 4)
	four := of(4, 5, 0, api.Unseal, 0)
	m := parse(t, slots("root r8 128 144 0 c 4;root r9 6 7 9 u 0;"))
	checkGrant(t, "nothing opens it", m, 0, codeOf(0, 1), shut, six)
	m = parse(t, slots("root r8 128 144 0 c 4;root r9 4 5 0 u 0;"))
	checkGrant(t, "it is opened", m, 0, codeOf(0, 1), shut, four, sealed(shut, 0), at[128])
	m = parse(t, slots("root r8 128 144 0 c 4;root r9 4 5 0 u 0;root r10 6 7 9 u 0;root r11 80 96 80 c 0;"))
	three := sealed(at[128], 0)
	checkGrant(t, "by turns", m, 0, codeOf(0, 1), shut, four, six, sealed(shut, 0), at[128], three, of(80, 96, 80, api.LoadCap, 0), at[80], sealed(at[80], 0))
}

// TestGrantByGates: what comes by arguments and results shows and opens, too.
func TestGrantByGates(t *testing.T) {
	at := shownAt()
	m := parse(t, strings.Replace(slots("call b;"), "gate a 0 0 ->", "comp;ret;gate a 0 0 cap 64 96 5 6 c 0 ->;gate b 1 0 -> cap 2 4 9 9 u 0", 1))
	checkGrant(t, "by gates", m, 0, codeOf(0, 2), of(64, 96, 5, api.LoadCap, 0), at[64], at[80], of(2, 4, 9, api.Unseal, 0), sealed(at[80], 0))
	checkGrant(t, "by gates, on the other side", m, 1, codeOf(1, 1))
}

// TestRoundsOfSlots: types of slots that show one another.
func TestRoundsOfSlots(t *testing.T) {
	m := parse(t, "depth 1;region 16 48 slots;slot cap 32 48 0 9 c 0 at 3;slot cap 48 64 1 9 c 0 at 3;slot cap 16 32 2 9 c 0 at 3;comp;root r8 32 48 40 c 0;ret;gate a 0 0 ->")
	checkGrant(t, "a round", m, 0, codeOf(0, 1), of(32, 48, 40, api.LoadCap, 0), of(32, 48, 0, api.LoadCap, 0), of(48, 64, 1, api.LoadCap, 0), of(16, 32, 2, api.LoadCap, 0))
}

// TestNoSuchCompartment: below 0, and behind the last one.
func TestNoSuchCompartment(t *testing.T) {
	m := parse(t, gated("ret"))
	for _, comp := range []int{-1 << 63, -1 << 32, -2, -1, 2, 3, 4, 1 << 32, 1<<63 - 1} {
		checkGrant(t, "no such compartment", m, comp)
		checkGrant(t, "no such compartment of nothing", api.Image{}, comp)
	}
	checkGrant(t, "of nothing", api.Image{}, 0)
}

// TestProgramsThatAreNotRight: nobody is granted anything, whatever is wrong, and wherever.
func TestProgramsThatAreNotRight(t *testing.T) {
	for what, spoil := range map[string]func(m *api.Image){
		"depth 0":                   func(m *api.Image) { m.Depth = 0 },
		"no gates":                  func(m *api.Image) { m.Gates = nil },
		"a region that goes beyond": func(m *api.Image) { m.Regions[0].Len = 1 << 40 },
		"a region out of place":     func(m *api.Image) { m.Regions[3].Base = 0 },
		"a slot of integers":        func(m *api.Image) { m.Regions[1].Slots[0] = api.Slot{} },
		"a slot of integers last":   func(m *api.Image) { m.Regions[3].Slots[2] = api.Slot{Cursor: 3} },
		"a slot that points out":    func(m *api.Image) { m.Regions[1].Slots[0].Cursor = 10 },
		"slots that do not fill it": func(m *api.Image) { m.Regions[1].Slots = m.Regions[1].Slots[:1] },
		"the root r7":               func(m *api.Image) { m.Comps[0].Roots[0].Reg = 7 },
		"a root with Exec":          func(m *api.Image) { m.Comps[0].Roots[0].Cap.Perms = api.Exec },
		"a root not rightly built":  func(m *api.Image) { m.Comps[0].Roots[0].Cap.Seal = 16 },
		"no code":                   func(m *api.Image) { m.Comps[0].Code = nil },
		"a call of no gate":         func(m *api.Image) { m.Comps[0].Code[0] = api.Inst{Op: api.CALL, Imm: 1} },
		"a call below all gates":    func(m *api.Image) { m.Comps[0].Code[0] = api.Inst{Op: api.CALL, Imm: -1} },
		"no operation":              func(m *api.Image) { m.Comps[0].Code[0].Op = 99 },
		"a gate of no compartment":  func(m *api.Image) { m.Gates[0].Comp = 1 },
		"an entry behind the code":  func(m *api.Image) { m.Gates[0].Entry = 1 },
		"an argument with Exec":     func(m *api.Image) { m.Gates[0].Args = []api.Type{{Cap: true, Perms: api.Exec}} },
		"an integer with bounds":    func(m *api.Image) { m.Gates[0].Results = []api.Type{{Hi: 5}} },
	} {
		m := parse(t, slots("root r8 0 4294967296 0 c 0;"))
		if len(reach.Grant(m, 0)) != 7 {
			t.Fatalf("14.6: ahead of it all is right, and the Grant is %v", reach.Grant(m, 0))
		}
		spoil(&m)
		if image.Right(m) == api.OK {
			t.Fatalf("%s is right", what)
		}
		for _, comp := range []int{-1, 0, 1} {
			checkGrant(t, what, m, comp)
		}
	}
}

// TestGreatProgram: as many regions, slots, roots, gates and calls as may be.
func TestGreatProgram(t *testing.T) {
	m := api.Image{Depth: 1, Gates: make([]api.Gate, api.MaxGates), Comps: make([]api.Comp, api.MaxComps)}
	for k := range uint64(8) {
		r := api.Region{Base: 8192 * k, Len: 8192}
		for n := range uint64(512) {
			next := r.Base + 16*n + 16
			r.Slots = append(r.Slots, api.Slot{Type: api.Type{Cap: true, Base: next, End: next + 16, Hi: 9, Perms: api.LoadCap, Seal: int(n % 16)}, Cursor: 5})
		}
		m.Regions = append(m.Regions, r)
	}
	for k := range m.Comps {
		m.Comps[k].Roots = []api.Root{{Reg: 8, Cap: of(uint64(k)*16, uint64(k)*16+16, 0, api.LoadCap, 0)}, {Reg: 9, Cap: of(0, 16-uint64(k), 0, api.Unseal, 0)}}
		m.Comps[k].Code = slices.Repeat([]api.Inst{{Op: api.CALL, Imm: k}}, api.MaxCode)
	}
	for k := range m.Gates {
		m.Gates[k].Results = slices.Repeat([]api.Type{{Cap: true, Base: uint64(k), End: 99}}, api.MaxArgs)
	}
	// Beside the code, the authority and one result: the first compartment opens all seals, and comes by its root to all 4096 slots, of which 15 in 16 are sealed. The others come to a slot that they do not open: those between are opened.
	for comp, want := range []int{3 + 1 + 4096 + 3840, 3 + 1 + 15 + 14, 3 + 1 + 13 + 12, 3 + 1 + 11 + 10} {
		if got := len(reach.Grant(m, comp)); got != want {
			t.Errorf("14.6: of %d: %d, want %d", comp, got, want)
		}
	}
}
