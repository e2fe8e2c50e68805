package link_test

import (
	"fmt"
	"strings"
	"testing"

	"paddock/api"
)

// sized is a module of so many regions, compartments, gates of its own without names, and gates that stand for x. It lies where the place says.
func sized(t testing.TB, place, regions, comps, gates, needs int) api.Module {
	t.Helper()
	var m api.Module
	m.Image.Depth = 1
	for k := range regions {
		m.Image.Regions = append(m.Image.Regions, api.Region{Base: uint64(1024*place + 32*k), Len: 16})
	}
	for range comps {
		m.Image.Comps = append(m.Image.Comps, api.Comp{Code: []api.Inst{{Op: api.RET}}})
	}
	for k := range gates + needs {
		m.Image.Gates = append(m.Image.Gates, api.Gate{Comp: k % comps})
		m.Names = append(m.Names, "")
		// They stand among the others, as far as there are some.
		if k%2 == 1 && len(m.Needs) < needs || gates+needs-k <= needs-len(m.Needs) {
			m.Needs = append(m.Needs, api.Need{Gate: k, Name: "x"})
		}
	}
	return m
}

// counted are modules of so many of each, from rows of numbers. The first gate of the first one is x.
func counted(t testing.TB, rows ...[4]int) []api.Module {
	t.Helper()
	var l []api.Module
	for k, r := range rows {
		l = append(l, sized(t, k, r[0], r[1], r[2], r[3]))
	}
	l[0].Names[0] = "x"
	return l
}

// TestAsManyAsMayBe: and one more, at each place.
func TestAsManyAsMayBe(t *testing.T) {
	for _, x := range []struct {
		what  string
		rows  [][4]int
		whose int // -1: none is too many
	}{
		{"eight regions of one", [][4]int{{8, 1, 1, 0}}, -1},
		{"eight regions", [][4]int{{3, 1, 1, 0}, {3, 1, 1, 0}, {2, 1, 1, 0}}, -1},
		{"eight regions, then none", [][4]int{{8, 1, 1, 0}, {0, 1, 1, 0}, {0, 1, 1, 0}}, -1},
		{"a ninth region at the last", [][4]int{{3, 1, 1, 0}, {3, 1, 1, 0}, {3, 1, 1, 0}}, 2},
		{"a ninth region at the middle", [][4]int{{3, 1, 1, 0}, {6, 1, 1, 0}, {0, 1, 1, 0}}, 1},
		{"a ninth region, and a tenth behind", [][4]int{{1, 1, 1, 0}, {8, 1, 1, 0}, {1, 1, 1, 0}}, 1},
		{"four compartments of one", [][4]int{{0, 4, 1, 0}}, -1},
		{"four compartments", [][4]int{{0, 1, 1, 0}, {0, 1, 1, 0}, {0, 1, 1, 0}, {0, 1, 1, 0}}, -1},
		{"three and one", [][4]int{{0, 3, 1, 0}, {0, 1, 1, 0}}, -1},
		{"two and two", [][4]int{{0, 2, 1, 0}, {0, 2, 1, 0}}, -1},
		{"a fifth compartment at the last", [][4]int{{0, 2, 1, 0}, {0, 2, 1, 0}, {0, 1, 1, 0}}, 2},
		{"a fifth compartment at the middle", [][4]int{{0, 2, 1, 0}, {0, 3, 1, 0}, {0, 1, 1, 0}}, 1},
		{"a fifth module", [][4]int{{0, 1, 1, 0}, {0, 1, 1, 0}, {0, 1, 1, 0}, {0, 1, 1, 0}, {0, 1, 1, 0}}, 4},
		{"sixteen gates of one", [][4]int{{0, 1, 16, 0}}, -1},
		{"sixteen gates", [][4]int{{0, 1, 5, 0}, {0, 1, 5, 0}, {0, 1, 6, 0}}, -1},
		{"sixteen gates, four each", [][4]int{{0, 1, 4, 0}, {0, 1, 4, 0}, {0, 1, 4, 0}, {0, 1, 4, 0}}, -1},
		{"sixteen gates, and many that stand for others", [][4]int{{0, 1, 5, 0}, {0, 1, 5, 11}, {0, 1, 6, 10}}, -1},
		{"sixteen gates, and then such alone", [][4]int{{0, 1, 16, 0}, {0, 1, 0, 16}, {0, 1, 0, 1}, {0, 1, 0, 16}}, -1},
		{"a seventeenth gate at the last", [][4]int{{0, 1, 5, 0}, {0, 1, 5, 0}, {0, 1, 7, 0}}, 2},
		{"a seventeenth gate at the middle", [][4]int{{0, 1, 5, 0}, {0, 1, 12, 0}, {0, 1, 1, 0}}, 1},
		{"a seventeenth gate, and many that stand for others", [][4]int{{0, 1, 5, 0}, {0, 1, 5, 11}, {0, 1, 7, 9}}, 2},
		{"a seventeenth gate behind such alone", [][4]int{{0, 1, 16, 0}, {0, 1, 0, 16}, {0, 1, 1, 15}}, 2},
		{"two of them at once", [][4]int{{8, 2, 16, 0}, {1, 1, 1, 0}, {1, 2, 1, 0}}, 1},
		{"one behind the other", [][4]int{{8, 1, 15, 0}, {0, 3, 1, 0}, {0, 1, 1, 0}}, 2},
		{"all as many as may be", [][4]int{{4, 2, 9, 0}, {4, 2, 7, 9}}, -1},
	} {
		l := counted(t, x.rows...)
		if x.whose >= 0 {
			checkNoLink(t, x.what, api.ErrCount, x.whose, l...)
			continue
		}
		m := linked(t, x.what, l...)
		sum := [3]int{}
		for _, r := range x.rows {
			sum[0], sum[1], sum[2] = sum[0]+r[0], sum[1]+r[1], sum[2]+r[2]
		}
		if got := [3]int{len(m.Image.Regions), len(m.Image.Comps), len(m.Image.Gates)}; got != sum || len(m.Names) != sum[2] || len(m.Needs) != 0 {
			t.Errorf("17.3: %s: %v, %d names, %d needs, want %v", x.what, got, len(m.Names), len(m.Needs), sum)
		}
	}
}

// TestLongNames: names as long as may be, in all gates, which all are needed.
func TestLongNames(t *testing.T) {
	name := func(k int) string { return strings.Repeat(string([]byte{byte('A' + k)}), 15) + "_" }
	a, b := sized(t, 0, 0, 1, 16, 0), sized(t, 1, 0, 1, 0, 16)
	for k := range 16 {
		a.Names[k], b.Needs[k].Name = name(k), name(15-k)
	}
	for k := range 16 {
		b.Image.Comps[0].Code = append(b.Image.Comps[0].Code, api.Inst{Op: api.CALL, Imm: k})
	}
	m := linked(t, "sixteen long names", a, b)
	for k := range 16 {
		if m.Names[k] != name(k) || m.Image.Comps[1].Code[1+k] != (api.Inst{Op: api.CALL, Imm: 15 - k}) {
			t.Errorf("17.3: the gate %d: %q, %+v", k, m.Names[k], m.Image.Comps[1].Code[1+k])
		}
	}
}

// TestManyModules: it ends, and tells whose error it is, also where there are many.
func TestManyModules(t *testing.T) {
	const many = 100000
	l := make([]api.Module, many)
	for k := range l {
		l[k] = plain(t, "-")
		l[k].Names = []string{fmt.Sprintf("n%d", k)}
	}
	checkNoLink(t, "many compartments", api.ErrCount, 4, l...)
	l[many-1].Image.Depth = 17
	checkNoLink(t, "many, the last one wrong", api.ErrCount, many-1, l...)
	l[many-1] = plain(t, "n77")
	checkNoLink(t, "many, the last one's name there", api.ErrNeed, many-1, l...)
	l[many-1] = needy(t, "nobody")
	checkNoLink(t, "many, the last one with a need", api.ErrNeed, many-1, l...)
	l[many-1] = needy(t, "n99998")
	l[many-1].Image.Gates[1].Args = []api.Type{{}}
	checkNoLink(t, "many, the last one with a need of other types", api.ErrMatch, many-1, l...)
	l[many-1] = placed(t, 512, 16)
	l[many-2].Image.Regions = []api.Region{{Base: 512, Len: 32}}
	checkNoLink(t, "many, the last one's region there", api.ErrRegion, many-1, l...)
}

// TestManyRegions: as many as memory has granules, one of each module.
func TestManyRegions(t *testing.T) {
	var l []api.Module
	for k := range uint64(api.MaxMem / api.Granule) {
		l = append(l, placed(t, (k*2531%4096)*api.Granule, api.Granule))
	}
	checkNoLink(t, "each granule a region", api.ErrCount, 4, l...)
	checkNoLink(t, "one more", api.ErrRegion, len(l), append(l, placed(t, 0, 65536))...)
}
