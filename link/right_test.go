package link_test

import (
	"math"
	"slices"
	"strconv"
	"strings"
	"testing"

	"paddock/api"
)

// wide is a right module of five gates, two of which stand for others, with all that an image may have.
func wide(t testing.TB) api.Module {
	t.Helper()
	return module(t, "depth 3;region 0 32 bytes #0102;region 32 16 slots;slot cap 0 32 0 31 rw 0 at 4;"+
		"comp;root r8 0 32 0 rw 0;root r9 32 48 32 cd 0;lc r1 r9 0;call g1;call g3;ret;"+
		"comp;lb r2 r1 0;mov r1 r2;ret;"+
		"gate g0 0 0 ->;gate g1 1 0 cap 0 32 0 31 rw 0 -> int;gate g2 0 3 ->;gate g3 1 2 int ->;gate g4 0 0 ->",
		"first =some - =other _Z9a")
}

func TestRightModules(t *testing.T) {
	for what, m := range map[string]api.Module{
		"a": moduleA(t), "b": moduleB(t), "c": moduleC(t), "wide": wide(t),
		"no names":                module(t, textA, "- -"),
		"all needed":              module(t, textA, "=x =y"),
		"two needs of one name":   module(t, textA, "=x =x"),
		"a need of its own name":  module(t, textA, "twice =twice"),
		"a name like a need":      module(t, textA, "x =main"),
		"big and small are other": module(t, textA, "main Main"),
	} {
		checkRight(t, what, m, api.OK)
	}
	m := plain(t, "-")
	m.Names, m.Needs = []string{""}, []api.Need{}
	checkRight(t, "empty lists", m, api.OK)
}

// TestImageErrorsFirst: each error of chapter 4, ahead of those of names and needs.
func TestImageErrorsFirst(t *testing.T) {
	for _, x := range []struct {
		what string
		want api.Errno
		turn func(p *api.Image)
	}{
		{"no compartments", api.ErrCount, func(p *api.Image) { p.Comps = nil }},
		{"no gates", api.ErrCount, func(p *api.Image) { p.Gates = nil }},
		{"no depth", api.ErrCount, func(p *api.Image) { p.Depth = 0 }},
		{"too great a depth", api.ErrCount, func(p *api.Image) { p.Depth = api.MaxDepth + 1 }},
		{"five compartments", api.ErrCount, func(p *api.Image) { p.Comps = slices.Repeat(p.Comps[:1], 5) }},
		{"seventeen gates", api.ErrCount, func(p *api.Image) { p.Gates = slices.Repeat(p.Gates[:1], 17) }},
		{"nine regions", api.ErrCount, func(p *api.Image) { p.Regions = slices.Repeat(p.Regions[:1], 9) }},
		{"a region askew", api.ErrRegion, func(p *api.Image) { p.Regions[0].Base = 8 }},
		{"regions in one another", api.ErrRegion, func(p *api.Image) { p.Regions[1].Base = 16 }},
		{"a slot of integers", api.ErrSlot, func(p *api.Image) { p.Regions[1].Slots[0].Type = api.Type{} }},
		{"a root r7", api.ErrRoot, func(p *api.Image) { p.Comps[0].Roots[0].Reg = 7 }},
		{"no code", api.ErrCount, func(p *api.Image) { p.Comps[1].Code = nil }},
		{"no operation", api.ErrOp, func(p *api.Image) { p.Comps[1].Code[0].Op = 14 }},
		{"a field", api.ErrField, func(p *api.Image) { p.Comps[1].Code[0].A = 16 }},
		{"a call of no gate", api.ErrTarget, func(p *api.Image) { p.Comps[0].Code[1].Imm = 5 }},
		{"a gate of no compartment", api.ErrGate, func(p *api.Image) { p.Gates[4].Comp = 2 }},
		{"a gate at no instruction", api.ErrGate, func(p *api.Image) { p.Gates[1].Entry = 3 }},
		{"a type", api.ErrType, func(p *api.Image) { p.Gates[3].Args[0].Hi = 5 }},
	} {
		m := wide(t)
		x.turn(&m.Image)
		checkRight(t, x.what, m, x.want)
		for what, wrong := range map[string]func(m *api.Module){
			"no names":   func(m *api.Module) { m.Names = nil },
			"many names": func(m *api.Module) { m.Names = slices.Repeat([]string{"x"}, 20) },
			"a name":     func(m *api.Module) { m.Names[0] = "-" },
			"a need":     func(m *api.Module) { m.Needs[0] = api.Need{Gate: -1} },
			"all":        func(m *api.Module) { m.Names, m.Needs = []string{"", "", "-"}, make([]api.Need, 40) },
		} {
			n := loose(m)
			wrong(&n)
			checkRight(t, x.what+", and "+what, n, x.want)
		}
	}
	checkRight(t, "nothing at all", api.Module{}, api.ErrCount)
}

// TestCountOfNames: as many as gates.
func TestCountOfNames(t *testing.T) {
	for n := range 40 {
		m := wide(t)
		m.Names, m.Needs = make([]string, n), nil
		want := api.ErrModule
		if n == 5 {
			want = api.OK
		}
		checkRight(t, "names without a byte", m, want)
	}
	m := wide(t)
	m.Names = m.Names[:4]
	checkRight(t, "a name fewer", m, api.ErrModule)
	m = wide(t)
	m.Names = append(m.Names, "more")
	checkRight(t, "a name more", m, api.ErrModule)
	// A need beyond the names, where there is a gate, and beyond the gates, where there is a name.
	m = wide(t)
	m.Names, m.Needs = m.Names[:3], m.Needs[1:]
	checkRight(t, "a need that no name stands for", m, api.ErrModule)
	m = wide(t)
	m.Names, m.Needs = append(m.Names, ""), []api.Need{{Gate: 5, Name: "x"}}
	checkRight(t, "a need of a gate that has but a name", m, api.ErrModule)
}

// named is a module with a name, and one that needs it.
func named(t testing.TB, name string) []api.Module {
	t.Helper()
	m, n := wide(t), wide(t)
	m.Names[2] = name
	n.Needs[1].Name = name
	return []api.Module{m, n}
}

// checkName looks whether a name may be: that of a gate and that of a need.
func checkName(t testing.TB, name string, may bool) {
	t.Helper()
	want := api.ErrModule
	if may {
		want = api.OK
	}
	for k, m := range named(t, name) {
		wantHere := want
		if name == "" {
			wantHere = []api.Errno{api.OK, api.ErrModule}[k]
		}
		checkRight(t, []string{"the name ", "the need of "}[k]+strconv.Quote(name), m, wantHere)
	}
}

func TestLengthOfNames(t *testing.T) {
	for n := range 40 {
		checkName(t, strings.Repeat("x", n), n <= 16)
	}
	for _, n := range []int{255, 256, 257, 65536, 1 << 20} {
		checkName(t, strings.Repeat("x", n), false)
		checkName(t, strings.Repeat("-", n), false)
	}
	// Bytes are counted, not letters.
	checkName(t, "abcdefghijklmnoö", false)
}

// TestSignsOfNames: each byte, at the front, in the middle and at the end.
func TestSignsOfNames(t *testing.T) {
	const signs = "abcdefghijklmnopqrstuvwxyzABCDEFGHIJKLMNOPQRSTUVWXYZ0123456789_"
	for n := range 256 {
		sign := string([]byte{byte(n)})
		may := strings.Contains(signs, sign)
		for _, name := range []string{sign, sign + "xyz", "xy" + sign + "z", "xyz" + sign, strings.Repeat("A", 15) + sign, sign + strings.Repeat("9", 15)} {
			checkName(t, name, may)
		}
	}
	for _, name := range []string{"ö", "ﬁ", "Ａ", "٣", "x\u0301", "\ufffd", "a b", "a.b", "=a", "a:", "\x00", "a\x00"} {
		checkName(t, name, false)
	}
}

func TestNamesTwice(t *testing.T) {
	for i := range 5 {
		for k := range i {
			m := wide(t)
			m.Names, m.Needs = make([]string, 5), nil
			checkRight(t, "empty names", m, api.OK)
			m.Names[i], m.Names[k] = "same", "same"
			checkRight(t, "a name twice", m, api.ErrModule)
			m.Names[k] = "Same"
			checkRight(t, "two names", m, api.OK)
			m.Names[k] = "sam"
			checkRight(t, "a name and its front", m, api.OK)
		}
	}
	m := wide(t)
	m.Names, m.Needs = []string{"x", "", "", "", "x"}, []api.Need{{Gate: 1, Name: "y"}}
	checkRight(t, "a name twice, with needs between", m, api.ErrModule)
}

// TestGatesOfNeeds: they are there, and rise.
func TestGatesOfNeeds(t *testing.T) {
	needs := func(gates ...int) api.Module {
		m := wide(t)
		m.Names, m.Needs = make([]string, 5), nil
		for _, g := range gates {
			m.Needs = append(m.Needs, api.Need{Gate: g, Name: "x"})
		}
		return m
	}
	for _, l := range [][]int{{}, {0}, {4}, {0, 1}, {0, 4}, {1, 2, 3}, {0, 1, 2, 3, 4}} {
		checkRight(t, "needs that rise", needs(l...), api.OK)
	}
	for _, l := range [][]int{
		{-1}, {math.MinInt}, {5}, {6}, {math.MaxInt}, {0, 5}, {-1, 0}, {0, -1}, {4, 5}, // not there
		{0, 0}, {3, 3}, {0, 1, 1}, {1, 1, 2}, {4, 4}, {0, 1, 2, 3, 4, 4}, // the same twice
		{1, 0}, {4, 3}, {0, 2, 1}, {2, 0, 1}, {0, 4, 1}, // they fall
	} {
		checkRight(t, "needs that do not", needs(l...), api.ErrModule)
	}
}

// TestNamesOfNeededGates: they are empty.
func TestNamesOfNeededGates(t *testing.T) {
	for gate := range 5 {
		m := wide(t)
		m.Names, m.Needs = []string{"n0", "n1", "n2", "n3", "n4"}, []api.Need{{Gate: gate, Name: "x"}}
		checkRight(t, "a name at a gate that is needed", m, api.ErrModule)
		m.Needs[0].Name = m.Names[gate]
		checkRight(t, "the same name there", m, api.ErrModule)
		m.Names[gate] = ""
		checkRight(t, "no name there", m, api.OK)
	}
	m := wide(t)
	m.Names[3] = "other"
	checkRight(t, "a name at the second one", m, api.ErrModule)
}
