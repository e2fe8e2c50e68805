package fastvm_test

import (
	"fmt"
	"testing"

	"paddock/api"
)

// use is an operation that touches memory.
type use struct {
	name    string
	isStore bool
	size    int
}

func uses() []use {
	return []use{{"flb", false, 1}, {"flw", false, 8}, {"flc", false, 16}, {"fsb", true, 1}, {"fsw", true, 8}, {"fsc", true, 16}}
}

// checkUse does one, with B and Imm, where an address lies in memory or does not.
func checkUse(t *testing.T, u use, b uint64, imm uint64) {
	t.Helper()
	const n = 0x8182838485868788
	p := alone(t, with(map[int]uint64{2: n, 3: b}), u.name+" a2 b3 c4;fnop")
	p.Code[0][0].Imm = imm
	x := begin(t, p, 0, nil, nil)
	want := lookAt(x)
	outcome := api.Outcome{Pc: 1}
	addr := b + imm
	if addr > 65536-uint64(u.size) {
		outcome = api.Outcome{End: api.Faulted, Fault: api.FBounds}
	} else {
		want.snap.Pc = 1
		want.touches = []api.Touch{{Store: u.isStore, Addr: addr, Size: uint64(u.size)}}
		if u.isStore {
			want.memory = stored(want.memory, int(addr), u.size, n)
		} else {
			want.snap.Regs[2] = read(want.memory, int(addr), u.size)
		}
	}
	what := fmt.Sprintf("13.3: %s, B %d and Imm %d", u.name, b, imm)
	checkOutcome(t, what, x.Step(), outcome)
	checkLook(t, what, x, want)
	if outcome.End == api.Faulted {
		checkOver(t, what, x, outcome)
	}
}

// TestUses: in the midst of memory, aligned or not, and about each of its ends.
func TestUses(t *testing.T) {
	for _, u := range uses() {
		for _, about := range []uint64{0, 16, 1016, 1024, 32768} {
			for k := range uint64(17) {
				checkUse(t, u, about, k)
			}
		}
		for k := range uint64(40) {
			checkUse(t, u, 65536-20, k)
			checkUse(t, u, k, 65536-20)
		}
	}
}

// TestAddressesGoRound: B + Imm does, and what lies behind it does not.
func TestAddressesGoRound(t *testing.T) {
	for _, u := range uses() {
		for k := range uint64(40) {
			checkUse(t, u, top-20, k)
			checkUse(t, u, k, top-20)
		}
		for _, b := range []uint64{16, 65528, 1 << 16, 1 << 32, 1 << 63, top} {
			for _, imm := range []uint64{-b, -b - 1, 1 - b, 65520 - b, 65521 - b, 65528 - b, 65529 - b, 65535 - b, 65536 - b} {
				checkUse(t, u, b, imm)
			}
		}
		for _, far := range []uint64{1 << 17, 1<<31 + 8, 1 << 32, 1<<32 + 1, 1<<48 + 16, 1 << 63, top - 15, top - 16, top - 7, top - 8} {
			checkUse(t, u, far, 0)
			checkUse(t, u, 0, far)
		}
	}
}

func TestExampleBytes(t *testing.T) {
	for text, want := range map[string]uint64{
		"flb a1 i2": 'a', "flw a1 i1": 0x6766656463626102, "flc a1 i1": 0x6766656463626102, "flb a1 i10": 0, "flw a1 i9": 'h', "flw a1 i10": 0,
	} {
		p := bareGate(t, 0, text)
		p.Memory = "\x01\x02abcdefgh"
		x := begin(t, p, 0, nil, nil)
		if x.Step(); x.Snap().Regs[1] != want {
			t.Errorf("13.3: %s: %x, want %x", text, x.Snap().Regs[1], want)
		}
	}
}

// TestStoresByteByByte: a byte becomes A's lowest one; of sixteen the last eight become noughts.
func TestStoresByteByByte(t *testing.T) {
	for _, c := range []struct{ code, want string }{
		{"fsb a1 b8", "ab\x88defghijklmnopqrstuvwxyz"},
		{"fsw a1 b8", "ab\x88\x77\x66\x55\x44\x33\x22\x11klmnopqrstuvwxyz"},
		{"fsc a1 b8", "ab\x88\x77\x66\x55\x44\x33\x22\x11\x00\x00\x00\x00\x00\x00\x00\x00stuvwxyz"},
		{"fsb a1 b8;fsb a1 b8 i1;fsw a0 b8 i3", "ab\x88\x88e\x01\x00\x00\x00\x00\x00\x00\x00nopqrstuvwxyz"},
		{"fsc a1 b8;fsw a1 b8 i8;fsb a0 b8 i7", "ab\x88\x77\x66\x55\x44\x33\x22\x01\x88\x77\x66\x55\x44\x33\x22\x11stuvwxyz"},
	} {
		p := alone(t, [16]uint64{0: 1, 1: 0x1122334455667788, 8: 2}, c.code)
		p.Memory = "abcdefghijklmnopqrstuvwxyz"
		x := begin(t, p, 0, nil, nil)
		for range p.Code[0] {
			x.Step()
		}
		if got := x.Memory()[:26]; got != c.want {
			t.Errorf("13.3: %s: %q, want %q", c.code, got, c.want)
		}
	}
}

// TestOneRegisterForBoth: A and B may be one.
func TestOneRegisterForBoth(t *testing.T) {
	for _, u := range uses() {
		x := begin(t, alone(t, with(map[int]uint64{5: 300}), u.name+" a5 b5 i7"), 0, nil, nil)
		want := lookAt(x)
		want.snap.Pc = 1
		want.touches = []api.Touch{{Store: u.isStore, Addr: 307, Size: uint64(u.size)}}
		if u.isStore {
			want.memory = stored(want.memory, 307, u.size, 300)
		} else {
			want.snap.Regs[5] = read(want.memory, 307, u.size)
		}
		x.Step()
		checkLook(t, "13.3: "+u.name+" a5 b5", x, want)
	}
}

// TestTouchesThatFault are none; nor is what ends a run.
func TestTouchesThatFault(t *testing.T) {
	x := begin(t, alone(t, with(map[int]uint64{8: 8}), "fsw a1 b8;flb a2 b8;flc a2 b8 i65528"), 0, nil, nil)
	checkOutcome(t, "13.3", x.Run(9), api.Outcome{End: api.Faulted, Fault: api.FBounds, Pc: 2})
	if got := x.Touches(); len(got) != 2 {
		t.Errorf("13.3: touched %+v", got)
	}
}
