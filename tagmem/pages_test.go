package tagmem

import (
	"strings"
	"testing"

	"paddock/api"
)

// there are the pages that are there.
func there(p *pages) []int {
	var l []int
	for n, piece := range p {
		if piece != nil {
			l = append(l, n)
		}
	}
	return l
}

func checkThere(t *testing.T, what string, p *pages, want ...int) {
	t.Helper()
	got := there(p)
	for n := range max(len(got), len(want)) {
		if n >= len(got) || n >= len(want) || got[n] != want[n] {
			t.Errorf("Ways: %s: the pages %d are there, want %d", what, got, want)
			return
		}
	}
}

// TestPagesAreSmallerThanMemory: else an array of pages would be memory itself.
func TestPagesAreSmallerThanMemory(t *testing.T) {
	if pageCount < 2 || pageSize*pageCount != api.MaxMem || pageSize%api.Granule != 0 {
		t.Errorf("Ways: %d pages of %d bytes", pageCount, pageSize)
	}
}

// TestPagesNeverWrittenTo: neither reading nor a store that may not be lays a page.
func TestPagesNeverWrittenTo(t *testing.T) {
	m := NewTagged(api.Image{Regions: []api.Region{{Len: api.MaxMem}, {Base: api.MaxMem, Data: "x"}, {Base: 8, Slots: make([]api.Slot, 3)}}})
	f := NewFlat("")
	for addr := uint64(0); addr < 2*api.MaxMem; addr += 8 {
		m.Load(addr, 8)
		m.LoadCap(addr)
		m.Store(addr, 2, 5)
		m.StoreCap(addr+1, api.Value{Tag: true})
		f.Load(addr, 1)
		f.Store(addr+api.MaxMem, 8, 5)
	}
	m.Tags()
	m.Bytes()
	f.Bytes()
	checkThere(t, "a Tagged that was read", &m.bytes)
	checkThere(t, "a Flat that was read", &f.bytes)
}

func TestPagesThatAreWrittenTo(t *testing.T) {
	m := NewTagged(api.Image{Regions: []api.Region{{Base: 2 * pageSize, Data: "x"}, {Base: 5 * pageSize, Slots: make([]api.Slot, 1)}}})
	m.Store(8*pageSize-4, 8, 5)
	m.Store(api.MaxMem-1, 1, 5)
	m.StoreCap(3*pageSize-16, api.Value{Tag: true})
	checkThere(t, "a Tagged", &m.bytes, 2, 5, 7, 8, pageCount-1)
	f := NewFlat(strings.Repeat("x", pageSize))
	checkThere(t, "a Flat", &f.bytes, 0)
	f.Store(pageSize, 1, 5)
	checkThere(t, "a Flat", &f.bytes, 0, 1)
}

// TestTagsThatAreGoneAreForgotten: no more is kept of a capability than is asked for.
func TestTagsThatAreGoneAreForgotten(t *testing.T) {
	c := api.Value{Tag: true, C: api.Cap{Base: 1, End: 2, Cursor: 3, Perms: 4, Seal: 5}}
	m := NewTagged(api.Image{})
	for addr := uint64(0); addr < 64; addr += 16 {
		m.StoreCap(addr, c)
	}
	m.Store(15, 8, 0)
	m.Store(32, 1, 0)
	m.StoreCap(48, api.Value{N: 1})
	if *m.caps[0] != (capPage{}) {
		t.Errorf("capabilities are kept: %+v", m.caps[0][:4])
	}
}
