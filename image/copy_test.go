package image_test

import (
	"math"
	"slices"
	"testing"
	"unsafe"

	"paddock/api"
	"paddock/image"
)

// area is the memory of a list, spare room too.
type area struct {
	from, to uintptr
}

func areaOf[T any](l []T) area {
	from := uintptr(unsafe.Pointer(unsafe.SliceData(l)))
	var one T
	return area{from, from + uintptr(cap(l))*unsafe.Sizeof(one)}
}

// areas are those of all lists of a program; a list of no memory at all has none.
func areas(m api.Image) []area {
	l := []area{areaOf(m.Regions), areaOf(m.Comps), areaOf(m.Gates)}
	for _, r := range m.Regions {
		l = append(l, areaOf(r.Slots), areaOf(unsafe.Slice(unsafe.StringData(r.Data), len(r.Data))))
	}
	for _, c := range m.Comps {
		l = append(l, areaOf(c.Roots), areaOf(c.Code))
	}
	for _, g := range m.Gates {
		l = append(l, areaOf(g.Args), areaOf(g.Results))
	}
	return slices.DeleteFunc(l, func(a area) bool { return a.from == a.to })
}

func checkApart(t *testing.T, what string, l, others []area) {
	t.Helper()
	for i, a := range l {
		for _, b := range slices.Concat(l[:i], others) {
			if a.from < b.to && b.from < a.to {
				t.Errorf("4.6: %s: two lists share memory", what)
			}
		}
	}
}

// roomy is a program whose lists all have spare room.
func roomy(m api.Image) api.Image {
	for i, r := range m.Regions {
		m.Regions[i].Slots = slices.Grow(r.Slots, 3)
	}
	for i, c := range m.Comps {
		m.Comps[i] = api.Comp{Roots: slices.Grow(c.Roots, 2), Code: slices.Grow(c.Code, 5)}
	}
	for i, g := range m.Gates {
		m.Gates[i].Args, m.Gates[i].Results = slices.Grow(g.Args, 4), slices.Grow(g.Results, 1)
	}
	m.Regions, m.Comps, m.Gates = slices.Grow(m.Regions, 2), slices.Grow(m.Comps, 1), slices.Grow(m.Gates, 3)
	return m
}

// woven is a program whose lists share memory with one another.
func woven() api.Image {
	m := rich()
	types := []api.Type{{}, wide(), {}}
	m.Gates[0].Args, m.Gates[0].Results, m.Gates[1].Args, m.Gates[1].Results = types[:1], types, types[1:], types[:2]
	m.Comps = append(m.Comps, m.Comps...)
	m.Regions[0].Data, m.Regions[2].Data = "abcd"[:2], "abcd"[2:]
	m.Gates = append(m.Gates, m.Gates...)
	return m
}

// odd is a program of which nothing is right.
func odd() api.Image {
	return api.Image{
		Depth:   math.MinInt,
		Regions: slices.Repeat([]api.Region{{Base: 3, Len: top, Data: "x\x00", Slots: make([]api.Slot, 2)}, {Slots: []api.Slot{{Type: api.Type{Seal: -9}, Cursor: 7}}}}, 9),
		Comps:   slices.Repeat([]api.Comp{{Roots: []api.Root{{Reg: -4, Cap: api.Cap{Base: 9, End: 8, Cursor: 7, Perms: 255, Seal: 99}}}}, {Code: []api.Inst{{Op: 250, A: -1, B: 256, C: math.MaxInt, Imm: math.MinInt}, {}}}, {}}, 4),
		Gates:   slices.Repeat([]api.Gate{{Comp: -1, Entry: math.MaxInt, Args: make([]api.Type, 40)}, {Results: []api.Type{{Hi: 5}}}}, 20),
	}
}

func programs() map[string]api.Image {
	return map[string]api.Image{
		"nothing":     {},
		"empty lists": {Regions: []api.Region{}, Comps: []api.Comp{{Roots: []api.Root{}, Code: []api.Inst{}}}, Gates: []api.Gate{{Args: []api.Type{}, Results: []api.Type{}}}},
		"empty lists with spare room": {Regions: rich().Regions[:0], Comps: []api.Comp{{Roots: rich().Comps[0].Roots[:0], Code: rich().Comps[0].Code[:0]}},
			Gates: []api.Gate{{Args: rich().Gates[0].Args[:0], Results: rich().Gates[0].Results[:0]}}},
		"least": least(), "rich": rich(), "roomy": roomy(rich()), "woven": woven(), "odd": odd(), "roomy and odd": roomy(odd()), "long": long(api.MaxImage),
	}
}

func TestCopyIsTheSame(t *testing.T) {
	for what, m := range programs() {
		if got := image.Copy(m); !same(got, m) {
			t.Errorf("4.6: a copy of %s is another program: %+v, want %+v", what, got, m)
		}
	}
}

func TestCopyIsNewMemory(t *testing.T) {
	for what, m := range programs() {
		a, b := image.Copy(m), image.Copy(m)
		checkApart(t, "a copy of "+what, areas(a), slices.Concat(areas(m), areas(b)))
	}
}

// overwrite writes over all lists of a program, spare room too.
func overwrite(m api.Image) {
	for _, r := range m.Regions[:cap(m.Regions)] {
		fill(r.Slots, api.Slot{Cursor: 12345})
	}
	for _, c := range m.Comps[:cap(m.Comps)] {
		fill(c.Roots, api.Root{Reg: 12345})
		fill(c.Code, api.Inst{Op: 123})
	}
	for _, g := range m.Gates[:cap(m.Gates)] {
		fill(g.Args, api.Type{Seal: 12345})
		fill(g.Results, api.Type{Seal: 12345})
	}
	fill(m.Regions, api.Region{Base: 12345})
	fill(m.Comps, api.Comp{Code: make([]api.Inst, 3)})
	fill(m.Gates, api.Gate{Comp: 12345})
}

func fill[T any](l []T, with T) {
	for i := range l[:cap(l)] {
		l[:cap(l)][i] = with
	}
}

func TestCopyOutlivesWhatItWasMadeOf(t *testing.T) {
	for what, of := range map[string]func() api.Image{"rich": rich, "woven": woven, "odd": odd, "roomy": func() api.Image { return roomy(rich()) }} {
		m := of()
		a, b := image.Copy(m), image.Copy(m)
		overwrite(m)
		if !same(a, of()) {
			t.Errorf("4.6: a copy of %s changes with what it was made of", what)
		}
		overwrite(a)
		if !same(b, of()) {
			t.Errorf("4.6: a copy of %s changes with another one", what)
		}
		m = of()
		overwrite(image.Copy(m))
		if !same(m, of()) {
			t.Errorf("4.6: %s changes with its copy", what)
		}
	}
}

// TestCopyLeavesSpareRoom looks at what stands behind the lists of a program.
func TestCopyLeavesSpareRoom(t *testing.T) {
	all := rich()
	part := rich()
	part.Regions, part.Comps, part.Gates = all.Regions[:1], all.Comps[:1], all.Gates[:1]
	part.Comps[0].Code, part.Comps[0].Roots = all.Comps[0].Code[:1], all.Comps[0].Roots[:1]
	part.Gates[0].Args = all.Gates[0].Args[:1]
	overwrite(image.Copy(part))
	all.Comps[0].Code, all.Comps[0].Roots, all.Gates[0].Args = all.Comps[0].Code[:4], all.Comps[0].Roots[:2], all.Gates[0].Args[:2]
	if !same(all, rich()) {
		t.Errorf("4.6: what stands behind a program's lists changes with its copy: %+v", all)
	}
}
