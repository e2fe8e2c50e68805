package image_test

import (
	"fmt"
	"runtime"
	"slices"
	"strings"
	"testing"

	"paddock/api"
	"paddock/image"
)

func TestDecodeExamples(t *testing.T) {
	checkWrong(t, "PADDK", "PADDK", api.ErrMagic, 0)
	checkWrong(t, "PADDK1", "PADDK1", api.ErrCut, 6)
	checkWrong(t, "example 1 and a byte more", leastBytes+"\x00", api.ErrRest, 26)
}

func TestDecodeMagic(t *testing.T) {
	for _, s := range []string{"", "P", "PADD", "PADDK", "paddk1", "PADDK2", "PADDK\x01", "ADDK1", " PADDK1", "PADDK0" + leastBytes[6:], "QADDK1" + leastBytes[6:], leastBytes[1:], "\x00" + leastBytes, strings.Repeat("P", 40000)} {
		checkWrong(t, fmt.Sprintf("%.20q", s), s, api.ErrMagic, 0)
	}
	for i := range 6 {
		checkWrong(t, fmt.Sprintf("another byte at %d", i), set(leastBytes, i, leastBytes[i]^32), api.ErrMagic, 0)
	}
}

// set is a text with another byte at a place.
func set(s string, at int, b byte) string {
	return s[:at] + string([]byte{b}) + s[at+1:]
}

func TestDecodeCutAtEachPlace(t *testing.T) {
	for _, s := range []string{leastBytes, strings.Join(richBytes(), "")} {
		for n := range len(s) {
			if n < 6 {
				checkWrong(t, fmt.Sprintf("%d bytes", n), s[:n], api.ErrMagic, 0)
			} else {
				checkWrong(t, fmt.Sprintf("%d bytes", n), s[:n], api.ErrCut, n)
			}
		}
	}
}

func TestDecodeRest(t *testing.T) {
	for _, s := range []string{leastBytes, strings.Join(richBytes(), "")} {
		for _, rest := range []string{"\x00", "\xff", "PADDK1", s, strings.Repeat("x", 5000)} {
			checkWrong(t, fmt.Sprintf("%d bytes more", len(rest)), s+rest, api.ErrRest, len(s))
		}
	}
}

func TestDecodeTooLong(t *testing.T) {
	longest := written(t, long(api.MaxImage))
	checkDecode(t, "the longest", longest, long(api.MaxImage), api.OK, 0)
	// One byte more of Data, told rightly: it would be read but for its length.
	at := 10 + 10
	data := 40000 - 38
	over := longest[:at] + num(2, uint64(data+1)) + "x" + longest[at+2:]
	checkWrong(t, "one longer than the longest", over, api.ErrCount, 0)
	checkWrong(t, "the longest and a byte more", longest+"\x00", api.ErrCount, 0)
	checkWrong(t, "noughts", strings.Repeat("\x00", 40001), api.ErrCount, 0)
	checkWrong(t, "many noughts", strings.Repeat("\x00", 1000000), api.ErrCount, 0)
	checkWrong(t, "40000 noughts", strings.Repeat("\x00", 40000), api.ErrMagic, 0)
	checkWrong(t, "40000 bytes with a rest", leastBytes+strings.Repeat("\x00", 40000-26), api.ErrRest, 26)
}

// placesOfTypes are where the types of rich's bytes begin: of two slots, of gate 0 (two arguments, a result), of gate 1 (an argument, three results).
func placesOfTypes() []int {
	var begins []int
	at := 0
	for _, piece := range richBytes() {
		begins = append(begins, at)
		at += len(piece)
	}
	gate0, gate1 := begins[11], begins[12]
	return []int{begins[3], begins[4], gate0 + 4, gate0 + 5, gate0 + 5 + 36, gate1 + 4, gate1 + 6, gate1 + 7, gate1 + 8}
}

func TestDecodeFirstByteOfAType(t *testing.T) {
	s := strings.Join(richBytes(), "")
	for _, at := range placesOfTypes() {
		if s[at] > 1 {
			t.Fatalf("no type begins at %d", at)
		}
		for b := 2; b < 256; b++ {
			checkWrong(t, fmt.Sprintf("a type that begins with %d", b), set(s, at, byte(b)), api.ErrType, at)
			checkWrong(t, fmt.Sprintf("a type that begins with %d, at the end", b), set(s, at, byte(b))[:at+1], api.ErrType, at)
		}
		checkWrong(t, "a type that is not there", s[:at], api.ErrCut, at)
	}
}

// rows are programs' bytes with that code in their one compartment; n is how many instructions they tell of.
func rows(n uint64, code string) string {
	return "PADDK1\x01\x00\x01\x01\x00" + num(2, n) + code
}

func TestDecodeInstructions(t *testing.T) {
	const gate = "\x00\x00\x00\x00\x00"
	none, wrong := "\x0e"+retBytes[1:], "\x02\x00\x00\x01\x00\x00\x00\x00"
	for _, c := range []struct {
		what string
		s    string
		e    api.Errno
		at   int
	}{
		{"no operation", rows(1, none+gate), api.ErrOp, 13},
		{"a wrong field", rows(1, wrong+gate), api.ErrField, 13},
		{"no operation behind others", rows(4, retBytes+retBytes+none+wrong+gate), api.ErrOp, 29},
		{"a wrong field behind others", rows(4, retBytes+wrong+none+retBytes+gate), api.ErrField, 21},
		{"a wrong one that is the last byte", rows(2, retBytes+none), api.ErrOp, 21},
		{"a wrong one, and bytes that end behind it", rows(3, retBytes+none), api.ErrOp, 21},
		{"a wrong one, and bytes that end within the next", rows(3, retBytes+wrong+"\x20\x00"), api.ErrField, 21},
		{"a wrong one of 65535", rows(65535, wrong), api.ErrField, 13},
		{"the tenth one wrong of 65535", rows(65535, strings.Repeat(retBytes, 9)+none), api.ErrOp, 13 + 72},
		{"wrong ones that are not there whole", rows(3, retBytes+retBytes+none[:7]), api.ErrCut, 36},
		{"bytes that end behind an instruction", rows(3, retBytes+retBytes), api.ErrCut, 29},
		{"bytes that end ahead of all", rows(3, ""), api.ErrCut, 13},
		{"bytes that end ahead of a wrong one", rows(3, retBytes+"\x0e"), api.ErrCut, 22},
		{"a field that no instruction may have", rows(1, "\x14\x00\x00\x00\xff\xff\xff\xff"+gate), api.ErrField, 13},
		{"more instructions than may be, all right", rows(401, strings.Repeat(retBytes, 401)+gate), api.ErrCount, 0},
		{"more instructions than may be, the last one wrong", rows(401, strings.Repeat(retBytes, 400)+none+gate), api.ErrOp, 13 + 3200},
		{"no instructions", rows(0, gate), api.ErrCount, 0},
	} {
		checkWrong(t, c.what, c.s, c.e, c.at)
	}
}

// TestDecodeInstructionsOfTheSecond finds the place of a wrong instruction behind all else that may stand ahead of it.
func TestDecodeInstructionsOfTheSecond(t *testing.T) {
	l := richBytes()
	s := strings.Join(l, "")
	at := len(strings.Join(l[:10], "")) + 2 + 8
	checkWrong(t, "the second instruction of the second compartment", set(s, at, 0), api.ErrOp, at)
	checkWrong(t, "its register", set(s, at+1, 16), api.ErrField, at)
}

// TestDecodeWhatRightSays: what is read whole and is no right program has the error of Right, and no place.
func TestDecodeWhatRightSays(t *testing.T) {
	region := func(bytes string) string { return "PADDK1\x01\x01\x01\x01" + bytes + leastBytes[10:] }
	comp := func(bytes string) string { return "PADDK1\x01\x00\x01\x01" + bytes + leastBytes[21:] }
	gate := func(bytes string) string { return leastBytes[:21] + bytes }
	capBytes := num(8, 0, 0, 0) + "\x00\x00"
	for _, c := range []struct {
		what string
		s    string
		e    api.Errno
	}{
		{"depth 0", set(leastBytes, 6, 0), api.ErrCount},
		{"depth 17", set(leastBytes, 6, 17), api.ErrCount},
		{"depth 255", set(leastBytes, 6, 255), api.ErrCount},
		{"no compartment", "PADDK1\x01\x00\x00\x01" + leastBytes[21:], api.ErrCount},
		{"no gate", "PADDK1\x01\x00\x01\x00" + leastBytes[10:21], api.ErrCount},
		{"65 regions", "PADDK1\x01\x41\x01\x01" + strings.Repeat(num(4, 0, 16)+num(2, 0, 0), 65) + leastBytes[10:], api.ErrCount},
		{"5 compartments", "PADDK1\x01\x00\x05\x01" + strings.Repeat(leastBytes[10:21], 5) + leastBytes[21:], api.ErrCount},
		{"17 gates", "PADDK1\x01\x00\x01\x11" + leastBytes[10:21] + strings.Repeat(leastBytes[21:], 17), api.ErrCount},
		{"a region of no bytes", region(num(4, 0, 0) + num(2, 0, 0)), api.ErrRegion},
		{"a region behind memory", region(num(4, 65536, 16) + num(2, 0, 0)), api.ErrRegion},
		{"a region of the greatest numbers", region(num(4, 1<<32-16, 1<<32-16) + num(2, 0, 0)), api.ErrRegion},
		{"Data that ends with 0", region(num(4, 0, 16) + num(2, 0, 2) + "a\x00"), api.ErrRegion},
		{"Data that is longer than its region", region(num(4, 0, 16) + num(2, 0, 17) + "0123456789abcdefg"), api.ErrRegion},
		{"a slot in two granules", region(num(4, 0, 32) + num(2, 1) + "\x01" + num(8, 0, 0, 0, 0) + "\x00\x00" + num(8, 0)), api.ErrRegion},
		{"a slot of integers", region(num(4, 0, 16) + num(2, 1) + "\x00" + num(8, 0)), api.ErrSlot},
		{"a slot that points elsewhere", region(num(4, 0, 16) + num(2, 1) + "\x01" + num(8, 0, 0, 0, 0) + "\x00\x00" + num(8, 1)), api.ErrSlot},
		{"a slot with the permission 128", region(num(4, 0, 16) + num(2, 1) + "\x01" + num(8, 0, 0, 0, 0) + "\x80\x00" + num(8, 0)), api.ErrSlot},
		{"a root r7", comp("\x01\x07" + capBytes + num(2, 1) + retBytes), api.ErrRoot},
		{"a root r255", comp("\x01\xff" + capBytes + num(2, 1) + retBytes), api.ErrRoot},
		{"nine roots", comp("\x09" + strings.Repeat("\x08"+capBytes, 9) + num(2, 1) + retBytes), api.ErrRoot},
		{"a root with the seal 255", comp("\x01\x08" + num(8, 0, 0, 0) + "\x00\xff" + num(2, 1) + retBytes), api.ErrRoot},
		{"a jump behind the code", comp("\x00" + num(2, 1) + "\x14\x00\x00\x00\x01\x00\x00\x00"), api.ErrTarget},
		{"a gate of compartment 1", gate("\x01\x00\x00\x00\x00"), api.ErrGate},
		{"a gate at instruction 256", gate("\x00\x00\x01\x00\x00"), api.ErrGate},
		{"a gate of eight arguments", gate("\x00\x00\x00\x08\x00\x00\x00\x00\x00\x00\x00\x00\x00"), api.ErrGate},
		{"a gate of 255 results", gate("\x00\x00\x00\x00\xff" + strings.Repeat("\x00", 255)), api.ErrGate},
		{"an argument with Exec", gate("\x00\x00\x00\x01\x01" + num(8, 0, 0, 0, 0) + "\x10\x00\x00"), api.ErrType},
		{"a result with Lo above Hi", gate("\x00\x00\x00\x00\x01\x01" + num(8, 0, 0, 1, 0) + "\x00\x00"), api.ErrType},
	} {
		checkWrong(t, c.what, c.s, c.e, 0)
		if len(c.s) > 6 {
			checkWrong(t, c.what+" and a byte more", c.s+"\x00", api.ErrRest, len(c.s))
			checkWrong(t, c.what+" and a byte less", c.s[:len(c.s)-1], api.ErrCut, len(c.s)-1)
		}
	}
}

// TestDecodeFirstOfTwo: what stands first shows first, and all of it ahead of what Right says.
func TestDecodeFirstOfTwo(t *testing.T) {
	s := strings.Join(richBytes(), "")
	code := len(strings.Join(richBytes()[:8], "")) + 2
	type fault struct {
		at, place int
		b         byte
		e         api.Errno
	}
	l := []fault{{code, code, 0, api.ErrOp}, {code + 8, code + 8, 0, api.ErrOp}, {code + 17, code + 16, 9, api.ErrField}}
	for _, at := range placesOfTypes() {
		l = append(l, fault{at, at, 2, api.ErrType})
	}
	slices.SortFunc(l, func(a, b fault) int { return a.at - b.at })
	for i, first := range l {
		once := set(s, first.at, first.b)
		checkWrong(t, "a wrong one and no depth", set(once, 6, 0), first.e, first.place)
		checkWrong(t, "a wrong one and more bytes", once+"rest", first.e, first.place)
		for _, second := range l[i+1:] {
			checkWrong(t, fmt.Sprintf("wrong bytes at %d and %d", first.at, second.at), set(once, second.at, second.b), first.e, first.place)
			checkWrong(t, fmt.Sprintf("a wrong byte at %d, cut at %d", second.at, first.at), set(s, second.at, second.b)[:first.at], api.ErrCut, first.at)
		}
	}
}

// TestDecodeCountsThatTellOfMore: no memory is taken for things that the counts tell of and that are not there.
func TestDecodeCountsThatTellOfMore(t *testing.T) {
	var ahead, behind runtime.MemStats
	runtime.ReadMemStats(&ahead)
	for _, s := range []string{
		"PADDK1\xff\xff\xff\xff",
		"PADDK1\xff\xff\xff\xff" + num(4, 0, 16) + "\xff\xff",
		"PADDK1\xff\xff\xff\xff" + num(4, 0, 16) + "\xff\xff\x01",
		"PADDK1\xff\xff\xff\xff" + strings.Repeat(num(4, 0, 16)+"\x00\x00\x00\x00", 254),
		"PADDK1\x01\x01\x01\x01" + num(4, 0, 16) + "\x00\x00\xff\xff" + strings.Repeat("x", 39970),
		"PADDK1\x01\x00\xff\xff\xff",
		"PADDK1\x01\x00\xff\xff\x00\xff\xff",
		leastBytes[:21] + "\xff\xff\xff\xff",
	} {
		checkWrong(t, fmt.Sprintf("%.30q", s), s, api.ErrCut, len(s))
	}
	// Slots of integers have nine bytes each: there are noughts enough for some of the 65535.
	s := "PADDK1\x01\xff\x01\x01" + num(4, 0, 16) + "\xff\xff" + strings.Repeat("\x00", 39980)
	checkWrong(t, "65535 slots", s, api.ErrCut, len(s))
	runtime.ReadMemStats(&behind)
	if taken := behind.TotalAlloc - ahead.TotalAlloc; taken > 16<<20 {
		t.Errorf("4.9: Decode takes %d bytes of memory for bytes that are not there", taken)
	}
}

func TestDecodeAnswersNewMemory(t *testing.T) {
	s := strings.Join(richBytes(), "")
	a, _, _ := image.Decode(s)
	b, _, _ := image.Decode(s)
	text := api.Image{Regions: []api.Region{{Data: s}}}
	checkApart(t, "what Decode answers", areas(a), slices.Concat(areas(b), areas(text)))
	overwrite(a)
	if !same(b, rich()) {
		t.Errorf("4.9: two answers share memory: %+v", b)
	}
}
