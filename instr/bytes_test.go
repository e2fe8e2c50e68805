package instr_test

import (
	"math"
	"slices"
	"strings"
	"testing"

	"paddock/api"
	"paddock/instr"
)

// bytesOf writes an instruction by division alone, as 3.5 says it.
func bytesOf(i api.Inst) string {
	n := int64(i.Imm)
	if n < 0 {
		n += 1 << 32
	}
	b := []byte{byte(i.Op), byte(i.A), byte(i.B), byte(i.C)}
	for range 4 {
		b = append(b, byte(n%256))
		n /= 256
	}
	return string(b)
}

// everySample is every instruction of samples, in the order of the operations.
func everySample() []api.Inst {
	var l []api.Inst
	for _, o := range operations() {
		l = append(l, samples(o)...)
	}
	return l
}

func checkEncode(t *testing.T, l []api.Inst, want string, e api.Errno, at int) {
	t.Helper()
	if s, gotE, gotAt := instr.Encode(l...); s != want || gotE != e || gotAt != at {
		t.Errorf("3.5, 3.6: Encode(%+v) = %q, %d, %d, want %q, %d, %d", l, s, gotE, gotAt, want, e, at)
	}
}

func checkDecode(t *testing.T, s string, want []api.Inst, e api.Errno, at int) {
	t.Helper()
	l, gotE, gotAt := instr.Decode(s)
	if !slices.Equal(l, want) || gotE != e || gotAt != at {
		t.Errorf("3.7: Decode(%q) = %+v, %d, %d, want %+v, %d, %d", s, l, gotE, gotAt, want, e, at)
	}
	if e != api.OK && l != nil {
		t.Errorf("3.7: Decode(%q) answers instructions beside its error", s)
	}
}

func TestBytesExamples(t *testing.T) {
	for _, c := range []struct {
		i    api.Inst
		want string
	}{
		{api.Inst{Op: api.LI, A: 3, Imm: -2}, "\x01\x03\x00\x00\xfe\xff\xff\xff"},
		{api.Inst{Op: api.GPERM, A: 9, Imm: 5, C: 200}, "\x4a\x09\x00\xc8\x05\x00\x00\x00"},
		{api.Inst{Op: api.RET}, "\x20\x00\x00\x00\x00\x00\x00\x00"},
		{api.Inst{Op: api.ADD, A: 1, B: 2, C: 3}, "\x03\x01\x02\x03\x00\x00\x00\x00"},
		{api.Inst{Op: api.JMP, Imm: 0x12345678}, "\x14\x00\x00\x00\x78\x56\x34\x12"},
		{api.Inst{Op: api.CALL, Imm: 2147483647}, "\x1f\x00\x00\x00\xff\xff\xff\x7f"},
		{api.Inst{Op: api.LI, Imm: -2147483648}, "\x01\x00\x00\x00\x00\x00\x00\x80"},
		{api.Inst{Op: api.LI, Imm: -1}, "\x01\x00\x00\x00\xff\xff\xff\xff"},
		{api.Inst{Op: api.SW, A: 15, B: 14, Imm: -256}, "\x3f\x0f\x0e\x00\x00\xff\xff\xff"},
		{api.Inst{Op: api.TRAP, Imm: 255}, "\x1c\x00\x00\x00\xff\x00\x00\x00"},
		{api.Inst{Op: api.GTAG, A: 15, C: 255}, "\x48\x0f\x00\xff\x00\x00\x00\x00"},
		{api.Inst{Op: api.GIN, A: 2, C: 1, Imm: 65536}, "\x49\x02\x00\x01\x00\x00\x01\x00"},
	} {
		checkEncode(t, []api.Inst{c.i}, c.want, api.OK, 0)
		checkDecode(t, c.want, []api.Inst{c.i}, api.OK, 0)
	}
}

func TestNoInstructions(t *testing.T) {
	if s, e, at := instr.Encode(); s != "" || e != api.OK || at != 0 {
		t.Errorf("3.6: Encode() = %q, %d, %d", s, e, at)
	}
	checkEncode(t, nil, "", api.OK, 0)
	checkEncode(t, []api.Inst{}, "", api.OK, 0)
	checkDecode(t, "", nil, api.OK, 0)
}

func TestEncodeAllInARow(t *testing.T) {
	l := everySample()
	var want strings.Builder
	for _, i := range l {
		checkEncode(t, []api.Inst{i}, bytesOf(i), api.OK, 0)
		checkDecode(t, bytesOf(i), []api.Inst{i}, api.OK, 0)
		want.WriteString(bytesOf(i))
	}
	if s, e, at := instr.Encode(l...); s != want.String() || e != api.OK || at != 0 {
		t.Errorf("3.5: all instructions in a row: %d bytes, %d, %d", len(s), e, at)
	}
	if got, e, at := instr.Decode(want.String()); !slices.Equal(got, l) || e != api.OK || at != 0 {
		t.Errorf("3.7: all instructions in a row: %d of them, %d, %d", len(got), e, at)
	}
}

func TestEncodeFirstWrongOne(t *testing.T) {
	ret, none, wrong := api.Inst{Op: api.RET}, api.Inst{Op: 14}, api.Inst{Op: api.MOV, C: 1}
	for _, c := range []struct {
		l  []api.Inst
		e  api.Errno
		at int
	}{
		{[]api.Inst{none}, api.ErrOp, 0},
		{[]api.Inst{wrong}, api.ErrField, 0},
		{[]api.Inst{{}}, api.ErrOp, 0},
		{[]api.Inst{ret, none}, api.ErrOp, 1},
		{[]api.Inst{ret, wrong}, api.ErrField, 1},
		{[]api.Inst{none, wrong}, api.ErrOp, 0},
		{[]api.Inst{wrong, none}, api.ErrField, 0},
		{[]api.Inst{ret, ret, wrong, ret, none, ret}, api.ErrField, 2},
		{[]api.Inst{ret, ret, ret, none, wrong, none}, api.ErrOp, 3},
		{[]api.Inst{ret, {Op: api.LI, Imm: 1 << 31}}, api.ErrField, 1},
		{[]api.Inst{ret, {Op: api.LI, Imm: -1<<31 - 1}}, api.ErrField, 1},
		{[]api.Inst{ret, {Op: api.LI, Imm: math.MinInt}}, api.ErrField, 1},
		{[]api.Inst{ret, {Op: api.ADD, A: 256}}, api.ErrField, 1},
		{[]api.Inst{ret, {Op: api.ADD, A: -1}}, api.ErrField, 1},
	} {
		checkEncode(t, c.l, "", c.e, c.at)
	}
}

func TestDecodeShort(t *testing.T) {
	l := []api.Inst{{Op: api.LI, A: 3, Imm: -2}, {Op: api.RET}, {Op: api.JMP, Imm: 7}}
	var s string
	for _, i := range l {
		s += bytesOf(i)
	}
	for n := range len(s) + 1 {
		if n%8 == 0 {
			checkDecode(t, s[:n], l[:n/8], api.OK, 0)
		} else {
			checkDecode(t, s[:n], nil, api.ErrShort, n-n%8)
		}
	}
	nought := strings.Repeat("\x00", 8)
	checkDecode(t, "\x20"+nought[:6], nil, api.ErrShort, 0)
	checkDecode(t, "\x20"+nought, nil, api.ErrShort, 8)
	checkDecode(t, "\x20"+nought[:7]+"\x0e"+nought[:7], nil, api.ErrOp, 8)
}

// TestDecodeShortAheadOfWrong: an instruction that is not whole is not asked whether it is right.
func TestDecodeShortAheadOfWrong(t *testing.T) {
	for n := 1; n < 8; n++ {
		checkDecode(t, "\x0e\x63\xff\xff\xff\xff\xff\xff"[:n], nil, api.ErrShort, 0)
		checkDecode(t, "\x20\xff\xff\xff\xff\xff\xff\xff"[:n], nil, api.ErrShort, 0)
	}
}

func TestDecodeFirstWrongOne(t *testing.T) {
	ret, none, wrong := bytesOf(api.Inst{Op: api.RET}), bytesOf(api.Inst{Op: 14}), bytesOf(api.Inst{Op: api.MOV, C: 1})
	for _, c := range []struct {
		s  string
		e  api.Errno
		at int
	}{
		{none, api.ErrOp, 0},
		{wrong, api.ErrField, 0},
		{ret + ret + wrong + none + "x", api.ErrField, 16},
		{ret + none + wrong, api.ErrOp, 8},
		{ret + wrong + "\x20", api.ErrField, 8},
		{ret + ret + ret + "\x0e", api.ErrShort, 24},
		{ret[1:] + ret, api.ErrOp, 0},
		{"\x01\x10\x00\x00\x00\x00\x00\x00", api.ErrField, 0},
		{"\x14\x00\x00\x00\xff\xff\xff\xff", api.ErrField, 0},
		{"\x46\x00\x00\x00\x00\x00\x00\x80", api.ErrField, 0},
		{"\x1c\x00\x00\x00\x00\x01\x00\x00", api.ErrField, 0},
	} {
		checkDecode(t, c.s, nil, c.e, c.at)
	}
}

func TestDecodeOfEachOperation(t *testing.T) {
	for _, o := range byNumber() {
		s := string([]byte{byte(o.op), 0, 0, 0, 0, 0, 0, 0})
		if o.name == "" {
			checkDecode(t, s, nil, api.ErrOp, 0)
		} else {
			checkDecode(t, s, []api.Inst{{Op: o.op}}, api.OK, 0)
		}
	}
}

func TestEncodeLeavesWhatIsHandedIn(t *testing.T) {
	l := []api.Inst{{Op: api.LI, A: 1, Imm: -5}, {Op: api.MOV, C: 1}, {Op: 99, A: 1, B: 2, C: 3, Imm: 4}}
	was := slices.Clone(l)
	for n := range len(l) + 1 {
		instr.Encode(l[:n]...)
	}
	if !slices.Equal(l, was) {
		t.Errorf("Encode has made %+v of %+v", l, was)
	}
}

func TestDecodeAnswersNewMemory(t *testing.T) {
	s := bytesOf(api.Inst{Op: api.LI, A: 1, Imm: 2}) + bytesOf(api.Inst{Op: api.RET})
	first, _, _ := instr.Decode(s)
	second, _, _ := instr.Decode(s)
	want := slices.Clone(second)
	for n := range first[:cap(first)] {
		first[:cap(first)][n] = api.Inst{Op: 99}
	}
	if !slices.Equal(second, want) {
		t.Errorf("two answers of Decode share memory: %+v", second)
	}
}
