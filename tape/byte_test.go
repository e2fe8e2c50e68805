package tape_test

import (
	"testing"

	"paddock/api"
)

// TestBytesAtFirst: as the program's regions say, noughts elsewhere; a capability's place has where it points.
func TestBytesAtFirst(t *testing.T) {
	x := taped(t, "ret", 0)
	for addr, want := range map[uint64]byte{0: 1, 1: 2, 4: 5, 5: 0, 63: 0, 64: 5, 65: 0, 72: 0, 80: 6, 88: 0, 96: 0, 30000: 0, 65519: 0, 65520: 0x2a, 65521: 0, api.MaxMem - 1: 0} {
		checkByte(t, "at first", x, 0, addr, want)
	}
}

// TestBytesByEachStore: ahead of it and behind it, its first byte and its last, and those beside it.
func TestBytesByEachStore(t *testing.T) {
	const text = "li r1 -1;sb r1 r8 20;sw r1 r8 30;sc r11 r9 0;sb r1 r12 15;sb r0 r8 20;sw r0 r12 8;halt r0"
	r := run{m: alone(t, text), fuel: 99}
	x, m := recorded(t, r), modelOf(t, r)
	for _, c := range []struct {
		addr  uint64
		bytes string // at the places 0 to 8
	}{
		{19, "\x00\x00\x00\x00\x00\x00\x00\x00\x00"},
		{20, "\x00\x00\xff\xff\xff\xff\x00\x00\x00"},
		{21, "\x00\x00\x00\x00\x00\x00\x00\x00\x00"},
		{29, "\x00\x00\x00\x00\x00\x00\x00\x00\x00"},
		{30, "\x00\x00\x00\xff\xff\xff\xff\xff\xff"},
		{33, "\x00\x00\x00\xff\xff\xff\xff\xff\xff"},
		{37, "\x00\x00\x00\xff\xff\xff\xff\xff\xff"},
		{38, "\x00\x00\x00\x00\x00\x00\x00\x00\x00"},
		{0, "\x01\x01\x01\x01\x01\x01\x01\x01\x01"},
		{64, "\x05\x05\x05\x05\x28\x28\x28\x28\x28"},
		{79, "\x00\x00\x00\x00\x00\x00\x00\x00\x00"},
		{api.MaxMem - 1, "\x00\x00\x00\x00\x00\xff\xff\x00\x00"},
		{api.MaxMem - 2, "\x00\x00\x00\x00\x00\x00\x00\x00\x00"},
	} {
		for place := range len(c.bytes) {
			checkByte(t, "each store", x, place, c.addr, c.bytes[place])
			checkByte(t, "each store, by the model", x, place, c.addr, m.bytes[place][c.addr])
		}
	}
	for place := range m.snaps {
		for _, addr := range []uint64{api.MaxMem, api.MaxMem + 1, 1 << 32, 1 << 63, top - 65535, top} {
			checkByteError(t, "each store", x, place, addr, api.ErrPlace)
			checkByteError(t, "each store", x, -1-place, addr, api.ErrStep)
			checkByteError(t, "each store", x, 9+place, addr, api.ErrStep)
		}
	}
}

// TestAllBytes: of a run with stores of each kind, at each place, all of memory that can be stored into.
func TestAllBytes(t *testing.T) {
	r := run{m: alone(t, "in r1;sw r1 r8 3;sb r1 r8 9;sc r11 r9 16;sw r1 r12 8;halt r1"), inputs: []uint64{0x0807060504030201}, fuel: 99}
	x, m := recorded(t, r), modelOf(t, r)
	for place, bytes := range m.bytes {
		for addr := range uint64(100) {
			checkByte(t, "all", x, place, addr, bytes[addr])
			checkByte(t, "all", x, place, api.MaxMem-1-addr, bytes[api.MaxMem-1-addr])
		}
	}
}
