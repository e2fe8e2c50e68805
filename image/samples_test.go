package image_test

import (
	"slices"
	"strings"
	"testing"

	"paddock/api"
	"paddock/image"
)

const top = ^uint64(0)

// retBytes are the bytes of RET.
const retBytes = "\x20\x00\x00\x00\x00\x00\x00\x00"

// least is the program of example 1, leastBytes are its bytes.
func least() api.Image {
	return api.Image{Depth: 1, Comps: []api.Comp{{Code: []api.Inst{{Op: api.RET}}}}, Gates: []api.Gate{{}}}
}

const leastBytes = "PADDK1\x01\x00\x01\x01\x00\x01\x00\x20\x00\x00\x00\x00\x00\x00\x00\x00\x00\x00\x00\x00"

// rich is a program with something of everything.
func rich() api.Image {
	return api.Image{
		Depth: 7,
		Regions: []api.Region{
			{Base: 0x110, Len: 0x20, Data: "a\x00b"},
			{Base: 0x1200, Len: 0x20, Slots: []api.Slot{{Type: wide(), Cursor: 0x1112131415161718}, {Type: api.Type{Cap: true, Base: 9, End: 1 << 32, Hi: top, Seal: 15}}}},
			{Base: 0x1220, Len: 0x10},
		},
		Comps: []api.Comp{
			{
				Roots: []api.Root{{Reg: 8, Cap: api.Cap{Base: 0x01020304, End: 0x05060708, Cursor: 0x2122232425262728, Perms: 3, Seal: 0}}, {Reg: 15, Cap: api.Cap{Perms: 96, Seal: 2}}},
				Code:  []api.Inst{{Op: api.LI, A: 1, Imm: -2}, {Op: api.CALL, Imm: 1}, {Op: api.JMP, Imm: 3}, {Op: api.BEQ, A: 1, B: 2, Imm: 0}},
			},
			{
				Roots: []api.Root{{Reg: 9, Cap: api.Cap{End: 64, Cursor: 1}}},
				Code:  []api.Inst{{Op: api.RET}, {Op: api.HALT, A: 5}},
			},
		},
		Gates: []api.Gate{
			{Comp: 0, Entry: 3, Args: []api.Type{{}, wide()}, Results: []api.Type{{}}},
			{Comp: 1, Entry: 1, Args: []api.Type{{}}, Results: []api.Type{{}, {}, wide()}},
		},
	}
}

// wide is a type of which no two numbers are alike.
func wide() api.Type {
	return api.Type{Cap: true, Base: 0x0a0b0c0d, End: 0x0e0f1011, Lo: 0x0102030405060708, Hi: 0x2131415161718191, Perms: 0x6f, Seal: 5}
}

// richBytes are the pieces of rich's bytes: the image, the regions, the compartments, the gates.
func richBytes() []string {
	wideBytes := num(1, 1) + num(8, 0x0a0b0c0d, 0x0e0f1011, 0x0102030405060708, 0x2131415161718191) + num(1, 0x6f, 5)
	return []string{
		"PADDK1\x07\x03\x02\x02",
		num(4, 0x110, 0x20) + num(2, 0, 3) + "a\x00b",
		num(4, 0x1200, 0x20) + num(2, 2),
		wideBytes + num(8, 0x1112131415161718),
		num(1, 1) + num(8, 9, 1<<32, 0, top) + num(1, 0, 15) + num(8, 0),
		num(4, 0x1220, 0x10) + num(2, 0, 0),
		num(1, 2, 8) + num(8, 0x01020304, 0x05060708, 0x2122232425262728) + num(1, 3, 0),
		num(1, 15) + num(8, 0, 0, 0) + num(1, 96, 2),
		num(2, 4) + "\x01\x01\x00\x00\xfe\xff\xff\xff" + "\x1f\x00\x00\x00\x01\x00\x00\x00" + "\x14\x00\x00\x00\x03\x00\x00\x00" + "\x15\x01\x02\x00\x00\x00\x00\x00",
		num(1, 1, 9) + num(8, 0, 64, 1) + num(1, 0, 0),
		num(2, 2) + retBytes + "\x1b\x05\x00\x00\x00\x00\x00\x00",
		num(1, 0) + num(2, 3) + num(1, 2, 0) + wideBytes + num(1, 1, 0),
		num(1, 1) + num(2, 1) + num(1, 1, 0) + num(1, 3, 0, 0) + wideBytes,
	}
}

// num writes numbers of so many bytes each by division alone.
func num(size int, numbers ...uint64) string {
	var b []byte
	for _, number := range numbers {
		for range size {
			b = append(b, byte(number%256))
			number /= 256
		}
	}
	return string(b)
}

// long is a right program of just so many bytes: it has that much Data.
func long(bytes int) api.Image {
	m := least()
	m.Regions = []api.Region{{Len: api.MaxMem, Data: strings.Repeat("x", bytes-len(leastBytes)-12)}}
	return m
}

// same tells whether two programs are the same; lists without elements are alike.
func same(a, b api.Image) bool {
	return a.Depth == b.Depth && slices.EqualFunc(a.Regions, b.Regions, sameRegion) && slices.EqualFunc(a.Comps, b.Comps, sameComp) && slices.EqualFunc(a.Gates, b.Gates, sameGate)
}

func sameRegion(a, b api.Region) bool {
	return a.Base == b.Base && a.Len == b.Len && a.Data == b.Data && slices.Equal(a.Slots, b.Slots)
}

func sameComp(a, b api.Comp) bool {
	return slices.Equal(a.Roots, b.Roots) && slices.Equal(a.Code, b.Code)
}

func sameGate(a, b api.Gate) bool {
	return a.Comp == b.Comp && a.Entry == b.Entry && slices.Equal(a.Args, b.Args) && slices.Equal(a.Results, b.Results)
}

// empty tells whether nothing stands in a program.
func empty(m api.Image) bool {
	return m.Regions == nil && m.Comps == nil && m.Gates == nil && m.Depth == 0
}

func written(t *testing.T, m api.Image) string {
	t.Helper()
	s, e := image.Encode(m)
	if e != api.OK {
		t.Fatalf("Encode(%+v): %d", m, e)
	}
	return s
}

func checkRight(t *testing.T, what string, m api.Image, want api.Errno) {
	t.Helper()
	if got := image.Right(m); got != want {
		t.Errorf("4.4: Right of %s: %d, want %d", what, got, want)
	}
}

func checkEncode(t *testing.T, what string, m api.Image, want string, e api.Errno) {
	t.Helper()
	if s, got := image.Encode(m); s != want || got != e {
		t.Errorf("4.7, 4.8: Encode of %s: %d bytes, %d, want %d bytes, %d", what, len(s), got, len(want), e)
	}
}

func checkDecode(t *testing.T, what string, s string, want api.Image, e api.Errno, at int) {
	t.Helper()
	m, gotE, gotAt := image.Decode(s)
	if gotE != e || gotAt != at {
		t.Errorf("4.9: Decode of %s: %d, %d, want %d, %d", what, gotE, gotAt, e, at)
	}
	if e == api.OK && !same(m, want) {
		t.Errorf("4.9: Decode of %s: %+v, want %+v", what, m, want)
	}
	if e != api.OK && !empty(m) {
		t.Errorf("4.9: Decode of %s answers a program beside its error: %+v", what, m)
	}
}

func checkWrong(t *testing.T, what string, s string, e api.Errno, at int) {
	t.Helper()
	checkDecode(t, what, s, api.Image{}, e, at)
}
