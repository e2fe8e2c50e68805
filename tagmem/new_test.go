package tagmem_test

import (
	"fmt"
	"math"
	"slices"
	"strings"
	"testing"

	"paddock/api"
	"paddock/tagmem"
)

// modelOf is the memory of an image, laid byte by byte and slot by slot.
func modelOf(m api.Image) *model {
	want := newModel()
	for _, r := range m.Regions {
		if r.Base >= api.MaxMem {
			continue
		}
		for n, b := range []byte(r.Data) {
			want.put(r.Base+uint64(n), b)
		}
		for n, s := range r.Slots {
			addr := r.Base + uint64(n)*16
			v := integer(s.Cursor)
			if s.Type.Cap {
				v = holding(api.Cap{Base: s.Type.Base, End: s.Type.End, Cursor: s.Cursor, Perms: s.Type.Perms, Seal: s.Type.Seal})
			}
			if addr%16 == 0 && addr < api.MaxMem {
				want.storeCap(addr, v)
			}
		}
	}
	return want
}

// capType is a type of capabilities of which no two parts are alike.
func capType() api.Type {
	return api.Type{Cap: true, Base: 64, End: 96, Lo: 1, Hi: 99, Perms: api.Load | api.Unseal, Seal: 9}
}

// slots are so many slots, that point to different places.
func slots(n int) []api.Slot {
	var l []api.Slot
	for i := range n {
		l = append(l, api.Slot{Type: capType(), Cursor: 0x0101010101010101 + uint64(i)})
	}
	return l
}

func regions(l ...api.Region) api.Image { return api.Image{Regions: l} }

func TestNewTagged(t *testing.T) {
	ints := []api.Slot{{Cursor: 5}, {Type: capType(), Cursor: 6}, {Type: api.Type{Base: 64, End: 96, Lo: 1, Hi: 2, Perms: 3, Seal: 4}, Cursor: top}}
	for what, m := range map[string]api.Image{
		"nothing":                                    {},
		"a region of nothing":                        regions(api.Region{Base: 32, Len: 32}),
		"Data":                                       regions(api.Region{Base: 32, Len: 32, Data: "abc"}),
		"Data from where no granule begins":          regions(api.Region{Base: 37, Len: 3, Data: "abc"}),
		"Data that is longer than its region":        regions(api.Region{Base: 32, Len: 1, Data: strings.Repeat("abc", 400)}),
		"Data that ends with 0":                      regions(api.Region{Base: 32, Len: 16, Data: "abc\x00\x00"}),
		"Data over two pages":                        regions(api.Region{Base: 1000, Len: 5000, Data: varied()[:5000]}),
		"Data in all of memory":                      regions(api.Region{Len: api.MaxMem, Data: varied()}),
		"Data behind one another":                    regions(api.Region{Base: 64, Data: "abc"}, api.Region{Base: 16, Data: "def"}),
		"slots":                                      regions(api.Region{Base: 32, Len: 48, Slots: slots(3)}),
		"slots of a region without a length":         regions(api.Region{Base: 32, Slots: slots(3)}),
		"slots over two pages":                       regions(api.Region{Base: 960, Len: 1600, Slots: slots(100)}),
		"slots in all of memory":                     regions(api.Region{Len: api.MaxMem, Slots: slots(4096)}),
		"slots whose types are no capability's":      regions(api.Region{Base: 32, Len: 48, Slots: ints}),
		"a slot that points elsewhere than its type": regions(api.Region{Base: 32, Slots: []api.Slot{{Type: capType(), Cursor: top}, {Type: capType()}}}),
		"slots of types that are not right":          regions(api.Region{Base: 32, Slots: []api.Slot{{Type: api.Type{Cap: true, Base: top, End: 3, Lo: 9, Hi: 2, Perms: 255, Seal: -7}, Cursor: 1 << 63}, {Type: api.Type{Cap: true, Perms: api.Exec, Seal: math.MaxInt}}}}),
		"Data, and slots over it":                    regions(api.Region{Base: 32, Len: 64, Data: strings.Repeat("z", 100), Slots: slots(2)}),
		"Data, and slots of integers over it":        regions(api.Region{Base: 32, Len: 64, Data: strings.Repeat("z", 100), Slots: ints[:1]}),
		"rows that nothing else looks at":            {Depth: -3, Regions: []api.Region{{Data: "q", Len: top}}, Comps: make([]api.Comp, 9), Gates: []api.Gate{{Comp: -1, Entry: 77, Args: []api.Type{capType()}}}},
		"more regions than may be":                   regions(slices.Repeat([]api.Region{{Base: 48, Data: "ab"}, {Base: 64, Slots: slots(1)}}, 50)...),
	} {
		checkAll(t, "6.6: "+what, tagmem.NewTagged(m), modelOf(m))
	}
}

// TestNewTaggedBeyondMemory: what would not lie in memory is left out, and that alone.
func TestNewTaggedBeyondMemory(t *testing.T) {
	for what, m := range map[string]api.Image{
		"Data of which one byte lies in memory":           regions(api.Region{Base: 65535, Data: "xyz"}),
		"Data of which all bytes but one lie in memory":   regions(api.Region{Base: 65534, Data: "xyz"}),
		"Data up to the end":                              regions(api.Region{Base: 65533, Data: "xyz"}),
		"Data behind the end":                             regions(api.Region{Base: 65536, Data: "xyz"}),
		"Data that is longer than memory":                 regions(api.Region{Base: 0, Data: varied() + "more"}),
		"Data that is longer than memory, from further":   regions(api.Region{Base: 20000, Data: varied() + varied()}),
		"Data far behind":                                 regions(api.Region{Base: 1 << 63, Data: "xyz"}, api.Region{Base: 1 << 32, Data: "xyz"}, api.Region{Base: 1<<17 + 16, Data: "xyz"}),
		"Data that would go round":                        regions(api.Region{Base: top, Data: "xyz"}, api.Region{Base: top - 1, Data: strings.Repeat("q", 400)}),
		"Data that would take a tag, if it went round":    regions(api.Region{Slots: slots(2)}, api.Region{Base: top - 7, Data: strings.Repeat("q", 40)}),
		"a slot up to the end":                            regions(api.Region{Base: 65520, Slots: slots(1)}),
		"slots of which one lies in memory":               regions(api.Region{Base: 65520, Slots: slots(3)}),
		"slots of which two lie in memory":                regions(api.Region{Base: 65504, Slots: slots(3)}),
		"slots behind the end":                            regions(api.Region{Base: 65536, Slots: slots(3)}),
		"slots far behind":                                regions(api.Region{Base: 1 << 32, Slots: slots(3)}, api.Region{Base: 1 << 63, Slots: slots(3)}, api.Region{Base: 1<<17 + 64, Slots: slots(3)}),
		"slots that would go round":                       regions(api.Region{Base: top - 15, Slots: slots(3)}, api.Region{Base: top - 31, Slots: slots(9)}),
		"slots of integers that would go round":           regions(api.Region{Slots: slots(4)}, api.Region{Base: top - 15, Slots: make([]api.Slot, 3)}),
		"slots from where no granule begins":              regions(api.Region{Base: 8, Slots: slots(3)}, api.Region{Base: 33, Slots: slots(3)}, api.Region{Base: 65527, Slots: slots(3)}),
		"Data with slots that begin at no granule":        regions(api.Region{Base: 40, Data: "abcdef", Slots: slots(3)}),
		"many slots":                                      regions(api.Region{Base: 65504, Slots: slots(70000)}),
		"many slots from where no granule begins":         regions(api.Region{Base: 4, Slots: slots(70000)}),
		"slots of which more would lie than memory holds": regions(api.Region{Base: 0, Slots: slots(4100)}),
		"Data in part, slots in part":                     regions(api.Region{Base: 65504, Data: strings.Repeat("w", 50), Slots: slots(1)}, api.Region{Base: 65512, Data: "v"}),
	} {
		checkAll(t, "6.6: "+what, tagmem.NewTagged(m), modelOf(m))
	}
}

// TestRegionsOverOneAnother lays Data over slots, byte by byte, and slots over Data.
func TestRegionsOverOneAnother(t *testing.T) {
	below := api.Region{Base: 1008, Slots: slots(3)}
	for base := uint64(1000); base < 1070; base++ {
		for _, n := range []int{0, 1, 2, 8, 15, 16, 17, 33, 64} {
			for _, b := range []string{"\x00", "y"} {
				m := regions(below, api.Region{Base: base, Data: strings.Repeat(b, n)})
				got := tagmem.NewTagged(m)
				what := fmt.Sprintf("6.6: %d bytes of Data at %d over slots", n, base)
				want := modelOf(m)
				checkBytes(t, what, got.Bytes(), string(want.bytes[:]))
				checkTags(t, what, got, want.tags()...)
			}
		}
		for _, m := range []api.Image{
			regions(api.Region{Base: 1000, Data: varied()[:80]}, api.Region{Base: base, Slots: slots(2)}),
			regions(below, api.Region{Base: base, Slots: make([]api.Slot, 2)}),
			regions(below, api.Region{Base: base, Slots: []api.Slot{{Type: api.Type{Cap: true}}}}, below),
			regions(api.Region{Base: base, Data: "first", Slots: slots(1)}, api.Region{Base: base, Data: "sec"}),
		} {
			got, want := tagmem.NewTagged(m), modelOf(m)
			checkTags(t, "6.6: slots over others", got, want.tags()...)
			checkBytes(t, "6.6: slots over others", got.Bytes(), string(want.bytes[:]))
		}
	}
}

// TestExampleSixOfTheWhole: the memory of the sixth example of the whole.
func TestExampleSixOfTheWhole(t *testing.T) {
	rw := api.Type{Cap: true, End: 16, Hi: 15, Perms: api.Load | api.Store}
	m := tagmem.NewTagged(regions(api.Region{Len: 16, Data: "\x07"}, api.Region{Base: 16, Len: 32, Slots: []api.Slot{{Type: rw}, {Type: rw, Cursor: 9}}}))
	checkTags(t, "6.6", m, 16, 32)
	checkLoad(t, "6.6", m, 0, 8, 7, api.OK)
	checkLoadCap(t, "6.6", m, 0, integer(7), api.OK)
	checkLoadCap(t, "6.6", m, 16, holding(api.Cap{End: 16, Perms: 3}), api.OK)
	checkLoadCap(t, "6.6", m, 32, holding(api.Cap{End: 16, Cursor: 9, Perms: 3}), api.OK)
	checkLoad(t, "6.6", m, 32, 8, 9, api.OK)
}

// TestNewTaggedLeavesItsImage: an image is not written into, and its owner may write over it.
func TestNewTaggedLeavesItsImage(t *testing.T) {
	made := func() (api.Image, []byte) {
		data, bytes := writable("abcdef")
		return regions(api.Region{Base: 3, Data: data}, api.Region{Base: 32, Slots: slots(2)}, api.Region{Base: 64, Data: "z"}), bytes
	}
	m, bytes := made()
	same, _ := made()
	m.Regions[1].Slots = slots(4)[:2]
	got, want := tagmem.NewTagged(m), modelOf(m)
	for addr := uint64(0); addr < 96; addr += 16 {
		v := holding(caps()[addr/16%5])
		checkStoreCap(t, "6.4", got, addr, v, api.OK)
		want.storeCap(addr, v)
	}
	for n, r := range m.Regions {
		if r.Base != same.Regions[n].Base || r.Data != same.Regions[n].Data || !slices.Equal(r.Slots, same.Regions[n].Slots) {
			t.Errorf("6.6: the image was changed: %+v", r)
		}
	}
	if behind := m.Regions[1].Slots[:4]; !slices.Equal(behind, slots(4)) {
		t.Errorf("6.6: what stands behind a list of the image was changed: %+v", behind)
	}
	other := tagmem.NewTagged(m)
	otherWant := modelOf(m)
	copy(bytes, "######")
	m.Regions[1].Slots[0] = api.Slot{Cursor: 1}
	m.Regions[2] = api.Region{}
	checkAll(t, "6.6: the image was written over", got, want)
	checkAll(t, "6.6: the image was written over", other, otherWant)
}

func TestNewFlat(t *testing.T) {
	long := varied() + "and some bytes beyond memory"
	for _, n := range []int{0, 1, 2, 7, 8, 9, 255, 256, 1023, 1024, 1025, 4095, 4096, 4097, 65528, 65535, 65536, 65537, 65540, len(long)} {
		text, bytes := writable(long[:n])
		f := tagmem.NewFlat(text)
		want := make([]byte, api.MaxMem)
		copy(want, text)
		checkBytes(t, fmt.Sprintf("6.7: NewFlat of %d bytes", n), f.Bytes(), string(want))
		checkStore(t, "6.7", f, 0, 8, 0x4142434445464748, api.OK)
		checkBytes(t, "6.7: what was handed in", text, long[:n])
		for i := range bytes {
			bytes[i] = '#'
		}
		copy(want, "HGFEDCBA")
		checkBytes(t, fmt.Sprintf("6.7: what was handed in was written over, %d bytes", n), f.Bytes(), string(want))
	}
	checkBytes(t, "6.7: of a far longer text", tagmem.NewFlat(strings.Repeat(varied(), 20)).Bytes(), varied())
	checkBytes(t, "6.7: of noughts alone", tagmem.NewFlat(strings.Repeat("\x00", 5000)).Bytes(), string(make([]byte, api.MaxMem)))
	checkBytes(t, "6.7: of bytes that are no text", tagmem.NewFlat("\xff\x80\xc3\x28é").Bytes()[:7], "\xff\x80\xc3\x28é\x00")
}

// TestNil asks memories that are not there for all that may be asked, also where another one would have no error.
func TestNil(t *testing.T) {
	var m *tagmem.Tagged
	var f *tagmem.Flat
	for _, addr := range []uint64{0, 8, 16, 65520, 65528, 65536, top} {
		for _, size := range []uint64{0, 1, 2, 8, top} {
			for _, n := range []memory{m, f} {
				checkLoad(t, "a nil memory", n, addr, size, 0, api.ErrPlace)
				checkStore(t, "a nil memory", n, addr, size, 5, api.ErrPlace)
			}
		}
		checkLoadCap(t, "a nil memory", m, addr, api.Value{}, api.ErrPlace)
		checkStoreCap(t, "a nil memory", m, addr, holding(caps()[0]), api.ErrPlace)
		checkStoreCap(t, "a nil memory", m, addr, integer(5), api.ErrPlace)
	}
	checkTags(t, "a nil memory", m)
	checkBytes(t, "a nil Tagged", m.Bytes(), "")
	checkBytes(t, "a nil Flat", f.Bytes(), "")
}
