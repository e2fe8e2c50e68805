package image_test

import (
	"slices"
	"strings"
	"testing"

	"paddock/api"
	"paddock/image"
)

func TestBytesExample(t *testing.T) {
	if len(leastBytes) != 26 {
		t.Fatalf("example 1 has %d bytes", len(leastBytes))
	}
	checkEncode(t, "example 1", least(), leastBytes, api.OK)
	checkDecode(t, "example 1", leastBytes, least(), api.OK, 0)
}

func TestBytesOfEverything(t *testing.T) {
	s := strings.Join(richBytes(), "")
	checkEncode(t, "rich", rich(), s, api.OK)
	checkDecode(t, "rich", s, rich(), api.OK, 0)
}

// TestBytesOfEachPiece tells apart which piece of rich's bytes is written otherwise.
func TestBytesOfEachPiece(t *testing.T) {
	s, at := written(t, rich()), 0
	for i, piece := range richBytes() {
		if end := min(at+len(piece), len(s)); s[at:end] != piece {
			t.Errorf("4.7: piece %d is %q, want %q", i, s[at:end], piece)
		}
		at = min(at+len(piece), len(s))
	}
}

func TestBytesOfEdges(t *testing.T) {
	regions := func(l ...api.Region) api.Image {
		m := least()
		m.Regions = l
		return m
	}
	rest := leastBytes[10:]
	begin := func(n byte) string { return "PADDK1\x01" + string([]byte{n}) + "\x01\x01" }
	for _, c := range []struct {
		what  string
		m     api.Image
		bytes string
	}{
		{"all of memory", regions(api.Region{Len: 65536}), begin(1) + "\x00\x00\x00\x00\x00\x00\x01\x00\x00\x00\x00\x00" + rest},
		{"the end of memory", regions(api.Region{Base: 65520, Len: 16, Data: "\xff"}), begin(1) + "\xf0\xff\x00\x00\x10\x00\x00\x00\x00\x00\x01\x00\xff" + rest},
		{"an empty list of slots", regions(api.Region{Len: 16, Slots: []api.Slot{}}), begin(1) + "\x00\x00\x00\x00\x10\x00\x00\x00\x00\x00\x00\x00" + rest},
		{"Data of 258 bytes", regions(api.Region{Len: 272, Data: strings.Repeat("ab", 129)}), begin(1) + "\x00\x00\x00\x00\x10\x01\x00\x00\x00\x00\x02\x01" + strings.Repeat("ab", 129) + rest},
		{"two regions", regions(api.Region{Len: 16}, api.Region{Base: 16, Len: 16}), begin(2) + "\x00\x00\x00\x00\x10\x00\x00\x00\x00\x00\x00\x00" + "\x10\x00\x00\x00\x10\x00\x00\x00\x00\x00\x00\x00" + rest},
	} {
		checkEncode(t, c.what, c.m, c.bytes, api.OK)
		checkDecode(t, c.what, c.bytes, c.m, api.OK, 0)
	}
}

// TestBytesOfGreatest writes the greatest numbers that the limits allow.
func TestBytesOfGreatest(t *testing.T) {
	m := api.Image{Depth: api.MaxDepth}
	want := "PADDK1\x10\x08\x04\x10"
	for i := range uint64(api.MaxRegions) {
		m.Regions = append(m.Regions, api.Region{Base: 8192 * i, Len: 8192})
		want += num(4, 8192*i, 8192) + num(2, 0, 0)
	}
	for range api.MaxComps {
		c := api.Comp{Code: slices.Repeat([]api.Inst{{Op: api.RET}}, api.MaxCode)}
		want += "\x08"
		for reg := api.Roots; reg < api.Regs; reg++ {
			c.Roots = append(c.Roots, api.Root{Reg: reg, Cap: api.Cap{Base: 1 << 32, End: 1 << 32, Cursor: top, Perms: 111, Seal: 15}})
			want += num(1, uint64(reg)) + num(8, 1<<32, 1<<32, top) + "\x6f\x0f"
		}
		m.Comps = append(m.Comps, c)
		want += "\x90\x01" + strings.Repeat(retBytes, 400)
	}
	for range api.MaxGates {
		types := slices.Repeat([]api.Type{{Cap: true, Base: 1 << 32, End: 1 << 32, Lo: top, Hi: top, Perms: 111, Seal: 15}}, api.MaxArgs)
		m.Gates = append(m.Gates, api.Gate{Comp: 3, Entry: 399, Args: types, Results: types})
		bytes := "\x07" + strings.Repeat("\x01"+num(8, 1<<32, 1<<32, top, top)+"\x6f\x0f", 7)
		want += "\x03\x8f\x01" + bytes + bytes
	}
	checkEncode(t, "the greatest", m, want, api.OK)
	checkDecode(t, "the greatest", want, m, api.OK, 0)
}

func TestEncodeTooLong(t *testing.T) {
	if s := written(t, long(api.MaxImage)); len(s) != 40000 {
		t.Errorf("4.8: the longest image has %d bytes", len(s))
	}
	if s := written(t, long(api.MaxImage-1)); len(s) != 39999 {
		t.Errorf("4.8: the longest image but one has %d bytes", len(s))
	}
	for _, n := range []int{40001, 40002, 50000, 65535 + 38, 65536 + 38} {
		checkRight(t, "a long one", long(n), api.OK)
		checkEncode(t, "a long one", long(n), "", api.ErrCount)
	}
}

// TestEncodeTooManySlots: as many slots of 43 bytes as an image has room for, and one more.
func TestEncodeTooManySlots(t *testing.T) {
	slots := func(n int) api.Image {
		m := least()
		m.Regions = []api.Region{{Len: uint64(16 * n), Slots: slices.Repeat([]api.Slot{{Type: wide(), Cursor: wide().Lo}}, n)}}
		return m
	}
	m := slots(929)
	s := written(t, m)
	if len(s) != 39983 {
		t.Errorf("4.7: 929 slots have %d bytes", len(s))
	}
	checkDecode(t, "929 slots", s, m, api.OK, 0)
	checkEncode(t, "930 slots", slots(930), "", api.ErrCount)
	checkEncode(t, "4096 slots", slots(4096), "", api.ErrCount)
}

// TestEncodeWrongAndTooLong: what Right says comes ahead of how long the bytes would be.
func TestEncodeWrongAndTooLong(t *testing.T) {
	m := long(50000)
	m.Gates[0].Comp = 1
	checkEncode(t, "a long one that is wrong", m, "", api.ErrGate)
	m = long(50000)
	m.Comps[0].Code[0].A = 1
	checkEncode(t, "a long one with a wrong field", m, "", api.ErrField)
	if s, e := image.Encode(api.Image{}); s != "" || e != api.ErrCount {
		t.Errorf("4.8: Encode of nothing: %q, %d", s, e)
	}
}
