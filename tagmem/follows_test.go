package tagmem_test

import (
	"math/rand/v2"
	"testing"

	"paddock/api"
	"paddock/tagmem"
)

// scribe makes stores, the same ones in each run of the tests.
type scribe struct{ *rand.Rand }

func newScribe(seed uint64) scribe { return scribe{rand.New(rand.NewPCG(seed, 6))} }

// place is an address at which others were likely written to as well: about a few places, some of them the ends of memory.
func (s scribe) place() uint64 {
	about := []uint64{0, 64, 1024, 4096, 65536}[s.IntN(5)]
	return about + s.Uint64N(81) - 40
}

func (s scribe) some() uint64 { return s.Uint64() >> s.IntN(65) }

func (s scribe) size() uint64 { return []uint64{1, 8, 8, 1, s.Uint64N(18)}[s.IntN(5)] }

func (s scribe) value() api.Value {
	c := api.Cap{Base: s.some(), End: s.some(), Cursor: s.some(), Perms: api.Perms(s.IntN(256)), Seal: s.IntN(20) - 2}
	return api.Value{Tag: s.IntN(3) > 0, N: s.some(), C: c}
}

// act is a store of one kind or the other.
type act struct {
	ofCap      bool
	addr, size uint64
	n          uint64
	v          api.Value
}

func (s scribe) act() act {
	a := act{ofCap: s.IntN(2) == 0, addr: s.place(), size: s.size(), n: s.some(), v: s.value()}
	if a.ofCap && s.IntN(8) > 0 {
		a.addr -= a.addr % 16
	}
	return a
}

func (a act) mayBe() bool {
	if a.ofCap {
		return a.addr%16 == 0 && mayLie(a.addr, 16)
	}
	return (a.size == 1 || a.size == 8) && mayLie(a.addr, a.size)
}

func (a act) onTagged(t *testing.T, m *tagmem.Tagged) {
	t.Helper()
	want := api.ErrPlace
	if a.mayBe() {
		want = api.OK
	}
	if a.ofCap {
		checkStoreCap(t, "6.8", m, a.addr, a.v, want)
		return
	}
	checkStore(t, "6.8", m, a.addr, a.size, a.n, want)
}

func (a act) onModel(m *model) {
	if !a.mayBe() {
		return
	}
	if a.ofCap {
		m.storeCap(a.addr, a.v)
		return
	}
	m.store(a.addr, a.size, a.n)
}

// onFlat is the same on a Flat; for a StoreCap the two Stores that go with it.
func (a act) onFlat(t *testing.T, f *tagmem.Flat) {
	t.Helper()
	if !a.ofCap {
		f.Store(a.addr, a.size, a.n)
		return
	}
	if !a.mayBe() {
		return
	}
	n := a.v.N
	if a.v.Tag {
		n = a.v.C.Cursor
	}
	checkStore(t, "6.8", f, a.addr, 8, n, api.OK)
	checkStore(t, "6.8", f, a.addr+8, 8, 0, api.OK)
}

// written adds to a list the granules into which an act wrote last, and whether that was a capability.
func (a act) written(last map[uint64]bool) {
	if !a.mayBe() {
		return
	}
	if a.ofCap {
		last[a.addr] = a.v.Tag
		return
	}
	last[a.addr/16*16] = false
	last[(a.addr+a.size-1)/16*16] = false
}

func TestRowsOfStores(t *testing.T) {
	for seed := range uint64(20) {
		s := newScribe(seed)
		m, want := full(t)
		f := tagmem.NewFlat(m.Bytes())
		for n := range 600 {
			a := s.act()
			a.onTagged(t, m)
			a.onFlat(t, f)
			a.onModel(want)
			at, size := s.place(), []uint64{1, 8}[s.IntN(2)]
			if mayLie(at, size) {
				checkLoad(t, "6.8: Tagged", m, at, size, want.load(at, size), api.OK)
				checkLoad(t, "6.8: Flat", f, at, size, want.load(at, size), api.OK)
			}
			if n%50 == 0 {
				checkBytes(t, "6.8: Tagged and Flat", f.Bytes(), m.Bytes())
			}
		}
		checkAll(t, "6.8: behind a row of stores", m, want)
		checkBytes(t, "6.8: Flat", f.Bytes(), string(want.bytes[:]))
	}
}

// TestTagJustIfLast looks at tags behind each store.
func TestTagJustIfLast(t *testing.T) {
	s := newScribe(77)
	m := tagmem.NewTagged(api.Image{})
	last := map[uint64]bool{}
	for range 3000 {
		a := s.act()
		a.onTagged(t, m)
		a.written(last)
		var want []uint64
		for addr := uint64(0); addr < api.MaxMem; addr += 16 {
			if last[addr] {
				want = append(want, addr)
			}
		}
		checkTags(t, "6.8: the last thing that was written", m, want...)
	}
}

// TestTwoByTurns: memories know nothing of one another, nor does one of what an earlier one did.
func TestTwoByTurns(t *testing.T) {
	begin := regions(api.Region{Data: "abc"}, api.Region{Base: 64, Slots: slots(3)})
	s := newScribe(8)
	one, two := tagmem.NewTagged(begin), tagmem.NewTagged(begin)
	oneWant, twoWant := modelOf(begin), modelOf(begin)
	flat, other := tagmem.NewFlat("abc"), tagmem.NewFlat("abc")
	flatWant, otherWant := newModel(), newModel()
	copy(flatWant.bytes[:], "abc")
	copy(otherWant.bytes[:], "abc")
	for range 2000 {
		a, b := s.act(), s.act()
		a.onTagged(t, one)
		a.onModel(oneWant)
		b.onTagged(t, two)
		b.onModel(twoWant)
		a.onFlat(t, flat)
		a.onModel(flatWant)
		b.onFlat(t, other)
		b.onModel(otherWant)
	}
	checkAll(t, "6.8: the one of two", one, oneWant)
	checkAll(t, "6.8: the other of two", two, twoWant)
	checkBytes(t, "6.8: the one of two", flat.Bytes(), string(flatWant.bytes[:]))
	checkBytes(t, "6.8: the other of two", other.Bytes(), string(otherWant.bytes[:]))
	checkAll(t, "6.6: a third one", tagmem.NewTagged(begin), modelOf(begin))
	checkBytes(t, "6.7: a third one", tagmem.NewFlat("abc").Bytes()[:8], "abc\x00\x00\x00\x00\x00")
}
