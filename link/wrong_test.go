package link_test

import (
	"fmt"
	"slices"
	"testing"

	"paddock/api"
)

// ring are so many modules, each of which needs the next one, and the last one the first.
func ring(t testing.TB, n int) []api.Module {
	t.Helper()
	var l []api.Module
	for k := range n {
		m := module(t, "depth 1;comp;call 1;ret;ret;gate g0 0 0 int -> int;gate g1 0 2 int -> int", fmt.Sprintf("n%d =n%d", k, (k+1)%n))
		m.Image.Regions = []api.Region{{Base: 64 * uint64(k), Len: 32}}
		l = append(l, m)
	}
	return l
}

// breach is how a module of a ring breaks a rule, by the rule's place among those of 17.2.
type breach struct {
	what  string
	rule  int
	err   api.Errno
	first int // the first module at which it can be
	turn  func(l []api.Module, k int)
}

func breaches() []breach {
	return []breach{
		{"an image", 2, api.ErrTarget, 0, func(l []api.Module, k int) { l[k].Image.Comps[0].Code[0].Imm = 16 }},
		{"a root", 2, api.ErrRoot, 0, func(l []api.Module, k int) { l[k].Image.Comps[0].Roots = []api.Root{{Reg: 7}} }},
		{"a name fewer", 2, api.ErrModule, 0, func(l []api.Module, k int) { l[k].Names = l[k].Names[:1] }},
		{"a region", 3, api.ErrRegion, 1, func(l []api.Module, k int) { l[k].Image.Regions[0].Base = 16 }},
		{"a name of one ahead", 4, api.ErrNeed, 1, func(l []api.Module, k int) { l[k].Names[0] = "n0" }},
		{"a need of what nobody has", 5, api.ErrNeed, 0, func(l []api.Module, k int) { l[k].Needs[0].Name = "nobody" }},
		{"a need of its own", 5, api.ErrNeed, 0, func(l []api.Module, k int) { l[k].Needs[0].Name = l[k].Names[0] }},
		{"a need of other arguments", 6, api.ErrMatch, 0, func(l []api.Module, k int) { l[k].Image.Gates[1].Args = nil }},
		{"a need of other results", 6, api.ErrMatch, 0, func(l []api.Module, k int) { l[k].Image.Gates[1].Results = make([]api.Type, 2) }},
		{"too many compartments", 7, api.ErrCount, 1, func(l []api.Module, k int) { l[k].Image.Comps = slices.Repeat(l[k].Image.Comps[:1], 4) }},
		{"too many regions", 7, api.ErrCount, 1, func(l []api.Module, k int) {
			for n := range uint64(7) {
				l[k].Image.Regions = append(l[k].Image.Regions, api.Region{Base: 1024 * (uint64(k+1)*8 + n), Len: 16})
			}
		}},
		{"too many gates", 7, api.ErrCount, 1, func(l []api.Module, k int) {
			for len(l[k].Image.Gates) < 16 {
				l[k].Image.Gates, l[k].Names = append(l[k].Image.Gates, api.Gate{}), append(l[k].Names, "")
			}
			// Fifteen of its own, one of that ahead: one more behind these.
			l[0].Image.Gates, l[0].Names = append(l[0].Image.Gates, api.Gate{}), append(l[0].Names, "")
		}},
	}
}

// TestEachRule: at the first, at a middle and at the last module.
func TestEachRule(t *testing.T) {
	for n := 3; n <= 4; n++ {
		linked(t, "a ring", ring(t, n)...)
		for _, b := range breaches() {
			for k := b.first; k < n; k++ {
				l := ring(t, n)
				b.turn(l, k)
				checkNoLink(t, fmt.Sprintf("%s, at %d of %d", b.what, k, n), b.err, k, l...)
			}
		}
	}
}

// TestTwoRules: the one that is asked first counts, whatever the order of the modules; of one rule the first module.
func TestTwoRules(t *testing.T) {
	for _, b := range breaches() {
		for _, c := range breaches() {
			for k := b.first; k < 3; k++ {
				for i := c.first; i < 3; i++ {
					if k == i && b.rule == c.rule {
						continue
					}
					l := ring(t, 3)
					b.turn(l, k)
					c.turn(l, i)
					err, whose := b.err, k
					if c.rule < b.rule || c.rule == b.rule && i < k {
						err, whose = c.err, i
					}
					checkNoLink(t, fmt.Sprintf("%s at %d, %s at %d", b.what, k, c.what, i), err, whose, l...)
				}
			}
		}
	}
}

// TestErrorsOfOneModule: in the order of 17.1, also among others that are wrong.
func TestErrorsOfOneModule(t *testing.T) {
	l := ring(t, 3)
	l[1].Image.Depth, l[1].Names = 0, nil
	l[2].Image.Depth = 17
	checkNoLink(t, "two images", api.ErrCount, 1, l...)
	l[1].Image.Depth = 1
	checkNoLink(t, "names, and an image behind", api.ErrModule, 1, l...)
	checkNoLink(t, "an image, and names behind", api.ErrCount, 0, l[2], l[0], l[1])
	checkNoLink(t, "the same wrong one twice", api.ErrModule, 1, l[0], l[1], l[1])
	checkNoLink(t, "nothing at all", api.ErrCount, 0, api.Module{}, api.Module{})
}

// TestRegionsBesideOneAnother: what touches has no byte in common; the least that can be in common are the bytes of a granule.
func TestRegionsBesideOneAnother(t *testing.T) {
	for _, x := range []struct {
		a, b api.Region
		meet bool
	}{
		{api.Region{Base: 64, Len: 32}, api.Region{Base: 32, Len: 32}, false},
		{api.Region{Base: 64, Len: 32}, api.Region{Base: 96, Len: 32}, false},
		{api.Region{Base: 64, Len: 32}, api.Region{Base: 48, Len: 32}, true},
		{api.Region{Base: 64, Len: 32}, api.Region{Base: 80, Len: 32}, true},
		{api.Region{Base: 64, Len: 32}, api.Region{Base: 80, Len: 16}, true},
		{api.Region{Base: 64, Len: 32}, api.Region{Base: 64, Len: 16}, true},
		{api.Region{Base: 64, Len: 32}, api.Region{Base: 64, Len: 32}, true},
		{api.Region{Base: 64, Len: 48}, api.Region{Base: 80, Len: 16}, true},
		{api.Region{Base: 64, Len: 32}, api.Region{Base: 0, Len: 65536}, true},
		{api.Region{Base: 64, Len: 32}, api.Region{Base: 0, Len: 64}, false},
		{api.Region{Base: 64, Len: 32}, api.Region{Base: 0, Len: 80}, true},
		{api.Region{Base: 64, Len: 32}, api.Region{Base: 96, Len: 65440}, false},
		{api.Region{Base: 64, Len: 32}, api.Region{Base: 112, Len: 16}, false},
		{api.Region{Base: 0, Len: 16}, api.Region{Base: 65520, Len: 16}, false},
		{api.Region{Base: 0, Len: 65520}, api.Region{Base: 65520, Len: 16}, false},
		{api.Region{Base: 65520, Len: 16}, api.Region{Base: 65520, Len: 16}, true},
		{api.Region{Base: 65504, Len: 32}, api.Region{Base: 65520, Len: 16}, true},
	} {
		for _, y := range [][2]api.Region{{x.a, x.b}, {x.b, x.a}} {
			a, b := placed(t, y[0].Base, y[0].Len), placed(t, y[1].Base, y[1].Len)
			what := fmt.Sprintf("regions %+v and %+v", y[0], y[1])
			if x.meet {
				checkNoLink(t, what, api.ErrRegion, 1, a, b)
				checkNoLink(t, what+", with one between", api.ErrRegion, 2, a, plain(t, "p"), b)
			} else {
				linked(t, what, a, b)
			}
		}
	}
}

// TestRegionsOfOthers: each region of a module counts, against each one of each module ahead, whatever it holds.
func TestRegionsOfOthers(t *testing.T) {
	rows := func(bases ...uint64) api.Module {
		m := plain(t, "-")
		for _, b := range bases {
			m.Image.Regions = append(m.Image.Regions, api.Region{Base: b, Len: 16})
		}
		return m
	}
	a, b := rows(0, 64, 128), rows(32, 96, 160)
	linked(t, "woven regions", a, b)
	linked(t, "woven regions, and more", a, b, rows(16, 48))
	for _, base := range []uint64{0, 32, 64, 96, 128, 160} {
		checkNoLink(t, "the first region", api.ErrRegion, 2, a, b, rows(base, 1024))
		if base > 16 {
			checkNoLink(t, "the last region", api.ErrRegion, 2, a, b, rows(16, base))
		}
	}
	slots := func(base uint64) api.Module {
		m := placed(t, base, 16)
		m.Image.Regions[0].Slots = []api.Slot{{Type: api.Type{Cap: true}}}
		return m
	}
	checkNoLink(t, "slots and bytes", api.ErrRegion, 1, rows(16), slots(16))
	checkNoLink(t, "bytes and slots", api.ErrRegion, 1, slots(16), rows(16))
	checkNoLink(t, "slots and slots", api.ErrRegion, 1, slots(16), slots(16))
	// What roots and types speak of is no region.
	r := rows(32)
	r.Image.Comps[0].Roots = []api.Root{{Reg: 8, Cap: api.Cap{End: 65536}}}
	r.Image.Gates[0].Args = []api.Type{{Cap: true, End: 128}}
	linked(t, "a root over all", r, rows(0, 16), plain(t, "-"))
}
