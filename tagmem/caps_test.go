package tagmem_test

import (
	"fmt"
	"slices"
	"testing"

	"paddock/api"
	"paddock/tagmem"
)

// tagged is a memory with a capability at each of these places.
func tagged(t *testing.T, places ...uint64) (*tagmem.Tagged, *model) {
	t.Helper()
	m, want := tagmem.NewTagged(api.Image{}), newModel()
	for n, addr := range places {
		v := holding(api.Cap{Base: addr, End: addr + 16, Cursor: 0x1122334455667788 + addr, Perms: api.Load, Seal: n % 16})
		checkStoreCap(t, "6.4", m, addr, v, api.OK)
		want.storeCap(addr, v)
	}
	return m, want
}

// TestEachByteTakesItsTag writes into each byte of a granule, and into those about it.
func TestEachByteTakesItsTag(t *testing.T) {
	for _, at := range []uint64{32, 1008, 1024, 65488} {
		for addr := at - 16; addr < at+32; addr++ {
			m, want := tagged(t, at-16, at, at+16)
			want.store(addr, 1, 0x99)
			checkStore(t, "6.2", m, addr, 1, 0x99, api.OK)
			checkAll(t, fmt.Sprintf("6.2: behind a store of a byte at %d", addr), m, want)
			if len(m.Tags()) != 2 || slices.Contains(m.Tags(), addr/16*16) {
				t.Errorf("6.2: behind a store of a byte at %d: Tags = %d", addr, m.Tags())
			}
		}
	}
}

// TestEightBytesTakeTags writes eight bytes into one granule or into two.
func TestEightBytesTakeTags(t *testing.T) {
	for _, at := range []uint64{32, 1008, 1024, 65488} {
		for addr := at - 16; addr <= at+24; addr++ {
			m, want := tagged(t, at-16, at, at+16)
			want.store(addr, 8, 0xa1a2a3a4a5a6a7a8)
			checkStore(t, "6.2", m, addr, 8, 0xa1a2a3a4a5a6a7a8, api.OK)
			checkAll(t, fmt.Sprintf("6.2: behind a store of 8 bytes at %d", addr), m, want)
			left := 2
			if addr%16 > 8 {
				left = 1
			}
			if len(m.Tags()) != left {
				t.Errorf("6.2: behind a store of 8 bytes at %d: Tags = %d", addr, m.Tags())
			}
		}
	}
}

// TestStoreOfWhatLiesThereTakesTheTag: a tag goes even if no byte is another one than before.
func TestStoreOfWhatLiesThereTakesTheTag(t *testing.T) {
	for i := range uint64(16) {
		for _, size := range []uint64{1, 8} {
			m, want := tagged(t, 64, 80, 96)
			n := want.load(64+i, size)
			checkStore(t, "6.2", m, 64+i, size, n, api.OK)
			want.store(64+i, size, n)
			checkAll(t, fmt.Sprintf("6.2: the same %d bytes at %d", size, 64+i), m, want)
			if slices.Contains(m.Tags(), 64) {
				t.Errorf("6.2: a store of what lies at %d leaves the tag", 64+i)
			}
		}
	}
}

func TestCapabilityReadAsBytes(t *testing.T) {
	for _, c := range caps() {
		m, _ := tagged(t, 16, 48)
		checkStore(t, "6.2", m, 32, 8, top, api.OK)
		checkStore(t, "6.2", m, 40, 8, top, api.OK)
		checkStoreCap(t, "6.4", m, 32, holding(c), api.OK)
		for i := range uint64(8) {
			checkLoad(t, "6.1: a byte of a capability", m, 32+i, 1, c.Cursor>>(8*i)%256, api.OK)
			checkLoad(t, "6.4: a nought behind it", m, 40+i, 1, 0, api.OK)
			checkLoad(t, "6.1: of a capability", m, 32+i, 8, c.Cursor>>(8*i), api.OK)
		}
		checkTags(t, "6.1: Loads leave tags", m, 16, 32, 48)
		checkLoadCap(t, "6.3: behind Loads", m, 32, holding(c), api.OK)
	}
}

// TestWhatIsNotMeant stores values that say more than they mean.
func TestWhatIsNotMeant(t *testing.T) {
	m := tagmem.NewTagged(api.Image{})
	for n, c := range caps() {
		addr := uint64(16 * n)
		checkStoreCap(t, "6.4", m, addr, api.Value{Tag: true, N: 0x77, C: c}, api.OK)
		checkLoadCap(t, "6.4: of a capability N is not meant", m, addr, holding(c), api.OK)
		checkLoad(t, "6.4: of a capability N is not meant", m, addr, 8, c.Cursor, api.OK)
		checkStoreCap(t, "6.4", m, addr, api.Value{N: 0x77, C: c}, api.OK)
		checkLoadCap(t, "6.4: of an integer C is not meant", m, addr, integer(0x77), api.OK)
		checkTags(t, "6.4: of an integer C is not meant", m)
	}
}

// TestOneOverTheOther stores integers and capabilities over one another, at one place, all ways.
func TestOneOverTheOther(t *testing.T) {
	values := []api.Value{integer(0), integer(9), integer(top), integer(0x0102030405060708)}
	for _, c := range caps() {
		values = append(values, holding(c))
	}
	for _, at := range []uint64{0, 1008, 65520} {
		for _, first := range values {
			for _, second := range values {
				m, want := full(t)
				checkStoreCap(t, "6.4", m, at, first, api.OK)
				want.storeCap(at, first)
				checkLoadCap(t, "6.4: the first", m, at, first, api.OK)
				checkStoreCap(t, "6.4", m, at, second, api.OK)
				want.storeCap(at, second)
				checkLoadCap(t, "6.4: the second", m, at, second, api.OK)
				checkBytes(t, "6.4: one over the other", m.Bytes(), string(want.bytes[:]))
				checkTags(t, "6.4: one over the other", m, want.tags()...)
			}
		}
	}
}

// TestStoresOverCapabilities writes eight bytes over a capability and a capability over these.
func TestStoresOverCapabilities(t *testing.T) {
	m, want := tagged(t, 32)
	c := caps()[2]
	for _, addr := range []uint64{32, 40, 25, 47} {
		checkStore(t, "6.2", m, addr, 8, 0x1717171717171717, api.OK)
		want.store(addr, 8, 0x1717171717171717)
		checkAll(t, "6.2: an integer over a capability", m, want)
		checkStoreCap(t, "6.4", m, 32, holding(c), api.OK)
		want.storeCap(32, holding(c))
		checkAll(t, "6.4: a capability over an integer", m, want)
	}
}

// TestLoadCapOfAnInteger: the second half of a granule does not matter, nor what lies about it.
func TestLoadCapOfAnInteger(t *testing.T) {
	want := newModel()
	copy(want.bytes[:], varied())
	m := tagmem.NewTagged(api.Image{Regions: []api.Region{{Data: varied()}}})
	checkAll(t, "6.3: integers", m, want)
	checkTags(t, "6.3: integers", m)
}

func TestPlacesOfCapabilities(t *testing.T) {
	m, want := full(t)
	for _, addr := range append(edges(), 1000, 1016, 1025, 1032, 4097) {
		if mayLie(addr, 16) && addr%16 == 0 {
			checkLoadCap(t, "6.3", m, addr, want.loadCap(addr), api.OK)
			continue
		}
		checkLoadCap(t, "6.3", m, addr, api.Value{}, api.ErrPlace)
		checkStoreCap(t, "6.4", m, addr, holding(caps()[4]), api.ErrPlace)
		checkStoreCap(t, "6.4", m, addr, integer(0x5a), api.ErrPlace)
	}
	checkAll(t, "6.4: behind stores that may not be", m, want)
}

func TestEachGranule(t *testing.T) {
	m, want := tagmem.NewTagged(api.Image{}), newModel()
	var places []uint64
	for n := range uint64(4096) {
		// 2731 and 4096 have no common divisor, so each granule has its turn, in no plain order.
		addr := n * 2731 % 4096 * 16
		v := holding(api.Cap{Base: n, End: n + addr, Cursor: addr<<32 + n, Perms: api.Perms(n), Seal: int(n)})
		checkStoreCap(t, "6.4", m, addr, v, api.OK)
		want.storeCap(addr, v)
		places = append(places, addr)
		if n%512 == 0 {
			checkAll(t, "6.5: some granules", m, want)
		}
	}
	checkAll(t, "6.5: all granules", m, want)
	slices.Sort(places)
	checkTags(t, "6.5: all granules", m, places...)
}

// TestGivenOutIsItsOwners writes over what Tags and Bytes gave, spare room too.
func TestGivenOutIsItsOwners(t *testing.T) {
	m, want := full(t)
	f := tagmem.NewFlat(string(want.bytes[:]))
	l, again := m.Tags(), m.Tags()
	for n := range l[:cap(l)] {
		l[:cap(l)][n] = 7
	}
	checkTags(t, "6.5: what Tags gave was written over", m, want.tags()...)
	if !slices.Equal(again, want.tags()) {
		t.Errorf("6.5: two lists of Tags share memory: %d", again)
	}
	for kind, b := range map[string]memory{"Tagged": m, "Flat": f} {
		s, other := b.Bytes(), b.Bytes()
		writeOver(s)
		checkBytes(t, "6.5, 6.7: what Bytes gave was written over: "+kind, b.Bytes(), string(want.bytes[:]))
		checkBytes(t, "6.5, 6.7: another text of Bytes: "+kind, other, string(want.bytes[:]))
	}
	checkAll(t, "6.5: what was given out was written over", m, want)
}

// TestGivenOutStays: stores do not change what Tags and Bytes gave ahead of them.
func TestGivenOutStays(t *testing.T) {
	m, want := full(t)
	f := tagmem.NewFlat(string(want.bytes[:]))
	tags, bytes, flat := m.Tags(), m.Bytes(), f.Bytes()
	for addr := uint64(0); addr < api.MaxMem; addr += 8 {
		checkStore(t, "6.2", m, addr, 8, 0, api.OK)
		checkStore(t, "6.7", f, addr, 8, 0, api.OK)
	}
	checkStoreCap(t, "6.4", m, 4096, holding(caps()[0]), api.OK)
	checkBytes(t, "6.5: Bytes behind stores", bytes, string(want.bytes[:]))
	checkBytes(t, "6.7: Bytes behind stores", flat, string(want.bytes[:]))
	if !slices.Equal(tags, want.tags()) {
		t.Errorf("6.5: Tags behind stores: %d", tags)
	}
}

// TestEmptyBytes: memory that nobody wrote into has all its bytes all the same.
func TestEmptyBytes(t *testing.T) {
	noughts := string(make([]byte, api.MaxMem))
	m := tagmem.NewTagged(api.Image{})
	checkBytes(t, "6.5, 6.6: nothing in it", m.Bytes(), noughts)
	checkTags(t, "6.5, 6.6: nothing in it", m)
	checkBytes(t, "6.7: nothing in it", tagmem.NewFlat("").Bytes(), noughts)
}
