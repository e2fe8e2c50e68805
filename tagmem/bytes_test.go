package tagmem_test

import (
	"fmt"
	"testing"

	"paddock/api"
	"paddock/tagmem"
)

func TestExampleOne(t *testing.T) {
	m := tagmem.NewTagged(api.Image{})
	c := caps()[0]
	checkStoreCap(t, "example 1", m, 32, holding(c), api.OK)
	checkLoad(t, "example 1", m, 32, 1, 2, api.OK)
	checkLoad(t, "example 1", m, 33, 1, 1, api.OK)
	checkLoad(t, "example 1", m, 32, 8, 258, api.OK)
	checkLoad(t, "example 1", m, 40, 8, 0, api.OK)
	checkTags(t, "example 1", m, 32)
	checkLoadCap(t, "example 1", m, 32, holding(c), api.OK)
	checkStore(t, "example 1", m, 47, 1, 5, api.OK)
	checkTags(t, "example 1", m)
	checkLoadCap(t, "example 1", m, 32, integer(258), api.OK)
	checkLoad(t, "example 1", m, 40, 8, 5<<56, api.OK)
}

func TestExampleTwo(t *testing.T) {
	m := tagmem.NewTagged(api.Image{})
	for _, addr := range []uint64{16, 32, 48, 64} {
		checkStoreCap(t, "example 2", m, addr, holding(caps()[0]), api.OK)
	}
	checkStore(t, "example 2", m, 44, 8, top, api.OK)
	checkTags(t, "example 2", m, 16, 64)
	checkLoad(t, "example 2", m, 65529, 8, 0, api.ErrPlace)
	checkLoad(t, "example 2", m, 65528, 8, 0, api.OK)
	checkLoad(t, "example 2", m, 0, 2, 0, api.ErrPlace)
	checkLoadCap(t, "example 2", m, 8, api.Value{}, api.ErrPlace)
	checkStoreCap(t, "example 2", m, 65536, holding(caps()[0]), api.ErrPlace)
}

// TestLoadAtEachAddress reads memory that was never stored into one by one.
func TestLoadAtEachAddress(t *testing.T) {
	s := varied()
	want := newModel()
	copy(want.bytes[:], s)
	for kind, m := range memories(s) {
		for addr := range uint64(api.MaxMem) {
			checkLoad(t, "6.1, 6.7: "+kind, m, addr, 1, uint64(s[addr]), api.OK)
			if addr <= api.MaxMem-8 {
				checkLoad(t, "6.1, 6.7: "+kind, m, addr, 8, want.load(addr, 8), api.OK)
			}
		}
		checkBytes(t, "6.1, 6.7: Loads change nothing: "+kind, m.Bytes(), s)
	}
}

// TestStoreAtEachAddress writes to all addresses, each store partly over the one ahead of it.
func TestStoreAtEachAddress(t *testing.T) {
	for _, size := range []uint64{1, 8} {
		for _, step := range []uint64{1, 3, 8} {
			want := newModel()
			all := memories("")
			for addr := uint64(0); addr <= api.MaxMem-size; addr += step {
				n := addr*0x0123456789abcdef ^ 0xfedcba9876543210
				want.store(addr, size, n)
				for kind, m := range all {
					checkStore(t, "6.2, 6.7: "+kind, m, addr, size, n, api.OK)
					checkLoad(t, "6.2, 6.7: "+kind, m, addr, size, want.load(addr, size), api.OK)
				}
			}
			for kind, m := range all {
				checkBytes(t, fmt.Sprintf("6.2, 6.7: %s, each %d bytes", kind, size), m.Bytes(), string(want.bytes[:]))
			}
		}
	}
}

// TestStoreLeavesAllElse stores at places where pages and granules meet, into memory of which each byte is known.
func TestStoreLeavesAllElse(t *testing.T) {
	for _, at := range []uint64{0, 16, 256, 512, 1024, 2048, 4096, 8192, 32768, 65528} {
		for addr := max(at, 9) - 9; addr < at+9; addr++ {
			for _, size := range []uint64{1, 8} {
				if addr+size > api.MaxMem {
					continue
				}
				want := newModel()
				copy(want.bytes[:], varied())
				want.store(addr, size, 0x8877665544332211)
				for kind, m := range memories(varied()) {
					checkStore(t, "6.2, 6.7: "+kind, m, addr, size, 0x8877665544332211, api.OK)
					checkBytes(t, fmt.Sprintf("6.2, 6.7: %s, %d bytes at %d", kind, size, addr), m.Bytes(), string(want.bytes[:]))
				}
			}
		}
	}
}

func TestStoreOfAByteIsModulo(t *testing.T) {
	for _, n := range []uint64{0, 1, 127, 128, 255, 256, 257, 511, 1<<32 + 7, 1 << 63, top - 1, top} {
		for kind, m := range memories("abc") {
			checkStore(t, "6.2, 6.7: "+kind, m, 1, 1, n, api.OK)
			checkLoad(t, "6.2, 6.7: "+kind, m, 1, 1, n%256, api.OK)
			checkLoad(t, "6.2, 6.7: "+kind, m, 0, 8, 'a'+n%256<<8+'c'<<16, api.OK)
		}
	}
}

// wrongSizes are sizes that are neither 1 nor 8, such as look so in fewer bits, too.
func wrongSizes() []uint64 {
	l := []uint64{0, 2, 3, 4, 5, 6, 7, 9, 10, 12, 15, 16, 17, 24, 32, 64, 255, 256, 257, 264, 65535, 65536, 65537, 65544}
	for _, far := range []uint64{1 << 16, 1 << 31, 1 << 32, 1 << 63} {
		l = append(l, far-1, far, far+1, far+8)
	}
	return append(l, top, top-1, top-7, top-8, top-15)
}

func TestWrongSizes(t *testing.T) {
	m, want := full(t)
	f := tagmem.NewFlat(varied())
	for _, size := range wrongSizes() {
		for _, addr := range []uint64{0, 1, 8, 16, 1020, 65520, 65528, 65535, 65536, top} {
			checkLoad(t, "6.1: a wrong size", m, addr, size, 0, api.ErrPlace)
			checkStore(t, "6.2: a wrong size", m, addr, size, 0x5a, api.ErrPlace)
			checkLoad(t, "6.7: a wrong size", f, addr, size, 0, api.ErrPlace)
			checkStore(t, "6.7: a wrong size", f, addr, size, 0x5a, api.ErrPlace)
		}
	}
	checkAll(t, "6.2: behind stores of wrong sizes", m, want)
	checkBytes(t, "6.7: behind stores of wrong sizes", f.Bytes(), varied())
}

// edges are addresses about the ends of memory, and of numbers of which only the lowest bits would lie in it.
func edges() []uint64 {
	var l []uint64
	for _, about := range []uint64{0, 1 << 16, 1 << 17, 1<<17 + 1024, 1 << 20, 1 << 31, 1 << 32, 1<<32 + 1<<15, 1 << 63} {
		for n := range uint64(41) {
			l = append(l, about+n-20)
		}
	}
	return l
}

// mayLie tells whether so many bytes lie in memory.
func mayLie(addr uint64, size uint64) bool {
	return addr < api.MaxMem && size <= api.MaxMem-addr
}

func TestEdgesOfMemory(t *testing.T) {
	whole, want := full(t)
	for kind, m := range map[string]memory{"Tagged": whole, "Flat": tagmem.NewFlat(whole.Bytes())} {
		for _, addr := range edges() {
			for _, size := range []uint64{1, 8} {
				if mayLie(addr, size) {
					checkLoad(t, "6.1, 6.7: "+kind, m, addr, size, want.load(addr, size), api.OK)
					continue
				}
				checkLoad(t, "6.1, 6.7: "+kind, m, addr, size, 0, api.ErrPlace)
				checkStore(t, "6.2, 6.7: "+kind, m, addr, size, 0x5a5a5a5a5a5a5a5a, api.ErrPlace)
			}
		}
		checkBytes(t, "6.2, 6.7: behind stores that may not be: "+kind, m.Bytes(), string(want.bytes[:]))
	}
	checkAll(t, "6.2: behind stores that may not be", whole, want)
}

func TestStoresAtEdgesThatMayBe(t *testing.T) {
	for _, addr := range edges() {
		for _, size := range []uint64{1, 8} {
			if !mayLie(addr, size) {
				continue
			}
			m, want := full(t)
			want.store(addr, size, 0x0807060504030201)
			checkStore(t, "6.2: at an edge", m, addr, size, 0x0807060504030201, api.OK)
			checkAll(t, fmt.Sprintf("6.2: behind a store of %d bytes at %d", size, addr), m, want)
		}
	}
}
