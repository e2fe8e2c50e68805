package tagmem_test

import (
	"slices"
	"strings"
	"testing"
	"unsafe"

	"paddock/api"
	"paddock/tagmem"
)

const top = ^uint64(0)

// memory is what memories with tags and without have in common.
type memory interface {
	Load(addr uint64, size uint64) (uint64, api.Errno)
	Store(addr uint64, size uint64, n uint64) api.Errno
	Bytes() string
}

// memories are one of each kind, with these bytes.
func memories(bytes string) map[string]memory {
	return map[string]memory{
		"Tagged": tagmem.NewTagged(api.Image{Regions: []api.Region{{Data: bytes}}}),
		"Flat":   tagmem.NewFlat(bytes),
	}
}

// varied are bytes for all of memory, of which none is 0; what stands at one place hardly stands at another.
func varied() string {
	var b strings.Builder
	for n := range api.MaxMem / 4 {
		b.WriteString(string([]byte{byte(1 + n%255), byte(1 + n/255), byte(1 + n%251), 0xf0 | byte(n&15)}))
	}
	return b.String()
}

// caps are capabilities, rightly built or not.
func caps() []api.Cap {
	return []api.Cap{
		{Base: 4, End: 300, Cursor: 258, Perms: api.Load, Seal: 3},
		{},
		{Base: 64, End: 96, Cursor: 0x0102030405060708, Perms: api.AllPerms},
		{Base: 96, End: 64, Cursor: top, Perms: 255, Seal: -1},
		{Base: top, End: top, Cursor: 1 << 63, Perms: 128, Seal: 99},
	}
}

func holding(c api.Cap) api.Value { return api.Value{Tag: true, C: c} }

func integer(n uint64) api.Value { return api.Value{N: n} }

// model is memory reckoned with in the plainest way: a row of bytes, and the capabilities by places.
type model struct {
	bytes [api.MaxMem]byte
	caps  map[uint64]api.Cap
}

func newModel() *model { return &model{caps: map[uint64]api.Cap{}} }

// put writes one byte; what is not in memory is left out.
func (m *model) put(addr uint64, b byte) {
	if addr < api.MaxMem {
		m.bytes[addr] = b
		delete(m.caps, addr/16*16)
	}
}

func (m *model) store(addr uint64, size uint64, n uint64) {
	for i := range size {
		m.put(addr+i, byte(n%256))
		n /= 256
	}
}

func (m *model) storeCap(addr uint64, v api.Value) {
	if v.Tag {
		m.store(addr, 8, v.C.Cursor)
		m.store(addr+8, 8, 0)
		m.caps[addr] = v.C
		return
	}
	m.store(addr, 8, v.N)
	m.store(addr+8, 8, 0)
}

func (m *model) load(addr uint64, size uint64) uint64 {
	n := uint64(0)
	for i := range size {
		n = n*256 + uint64(m.bytes[addr+size-1-i])
	}
	return n
}

func (m *model) loadCap(addr uint64) api.Value {
	if c, is := m.caps[addr]; is {
		return holding(c)
	}
	return integer(m.load(addr, 8))
}

func (m *model) tags() []uint64 {
	var l []uint64
	for addr := uint64(0); addr < api.MaxMem; addr += 16 {
		if _, is := m.caps[addr]; is {
			l = append(l, addr)
		}
	}
	return l
}

// differs is the first place at which two texts are not the same.
func differs(a, b string) int {
	for n := range min(len(a), len(b)) {
		if a[n] != b[n] {
			return n
		}
	}
	return min(len(a), len(b))
}

func checkBytes(t *testing.T, what string, got string, want string) {
	t.Helper()
	if got != want {
		t.Errorf("%s: %d bytes, want %d; they differ at %d", what, len(got), len(want), differs(got, want))
	}
}

// checkAll holds all that a memory tells against the model.
func checkAll(t *testing.T, what string, m *tagmem.Tagged, want *model) {
	t.Helper()
	checkBytes(t, what, m.Bytes(), string(want.bytes[:]))
	if got := m.Tags(); !slices.Equal(got, want.tags()) {
		t.Errorf("%s: Tags = %d, want %d", what, got, want.tags())
	}
	for addr := uint64(0); addr < api.MaxMem; addr += 16 {
		if v, e := m.LoadCap(addr); v != want.loadCap(addr) || e != api.OK {
			t.Fatalf("%s: LoadCap(%d) = %+v, %d, want %+v", what, addr, v, e, want.loadCap(addr))
		}
	}
}

func checkLoad(t *testing.T, what string, m memory, addr uint64, size uint64, want uint64, wantErr api.Errno) {
	t.Helper()
	if n, e := m.Load(addr, size); n != want || e != wantErr {
		t.Errorf("%s: Load(%d, %d) = %#x, %d, want %#x, %d", what, addr, size, n, e, want, wantErr)
	}
}

func checkStore(t *testing.T, what string, m memory, addr uint64, size uint64, n uint64, want api.Errno) {
	t.Helper()
	if e := m.Store(addr, size, n); e != want {
		t.Errorf("%s: Store(%d, %d, %#x) = %d, want %d", what, addr, size, n, e, want)
	}
}

func checkLoadCap(t *testing.T, what string, m *tagmem.Tagged, addr uint64, want api.Value, wantErr api.Errno) {
	t.Helper()
	if v, e := m.LoadCap(addr); v != want || e != wantErr {
		t.Errorf("%s: LoadCap(%d) = %+v, %d, want %+v, %d", what, addr, v, e, want, wantErr)
	}
}

func checkStoreCap(t *testing.T, what string, m *tagmem.Tagged, addr uint64, v api.Value, want api.Errno) {
	t.Helper()
	if e := m.StoreCap(addr, v); e != want {
		t.Errorf("%s: StoreCap(%d, %+v) = %d, want %d", what, addr, v, e, want)
	}
}

func checkTags(t *testing.T, what string, m *tagmem.Tagged, want ...uint64) {
	t.Helper()
	if got := m.Tags(); !slices.Equal(got, want) {
		t.Errorf("%s: Tags = %d, want %d", what, got, want)
	}
}

// full is a memory with varied bytes, and capabilities in its first two granules, its last two, and one between; and the model of it.
func full(t *testing.T) (*tagmem.Tagged, *model) {
	t.Helper()
	m, want := tagmem.NewTagged(api.Image{Regions: []api.Region{{Data: varied()}}}), newModel()
	for n, b := range []byte(varied()) {
		want.put(uint64(n), b)
	}
	for n, addr := range []uint64{0, 16, 1024, 65504, 65520} {
		v := holding(caps()[n])
		checkStoreCap(t, "6.4: filling memory", m, addr, v, api.OK)
		want.storeCap(addr, v)
	}
	return m, want
}

// writable is a text whose bytes its owner can write over.
func writable(s string) (string, []byte) {
	b := []byte(s)
	return unsafe.String(unsafe.SliceData(b), len(b)), b
}

// writeOver writes over a text that was given out.
func writeOver(s string) {
	b := unsafe.Slice(unsafe.StringData(s), len(s))
	for n := range b {
		b[n] = 0xaa
	}
}
