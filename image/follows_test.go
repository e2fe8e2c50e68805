package image_test

import (
	"math/rand/v2"
	"slices"
	"strings"
	"testing"

	"paddock/api"
	"paddock/image"
	"paddock/instr"
)

// dice makes right programs, the same ones in each run of the tests.
type dice struct {
	*rand.Rand
}

func rolled() dice { return dice{rand.New(rand.NewPCG(4, 10))} }

// number is one of few bits more often than one of many.
func (d dice) number() uint64 { return d.Uint64() >> d.IntN(65) }

func (d dice) capability() api.Cap {
	base := d.Uint64N(1<<32 + 1)
	perms := api.Perms(d.IntN(128)) &^ api.Exec
	return api.Cap{Base: base, End: base + d.Uint64N(1<<32+1-base), Cursor: d.number(), Perms: perms, Seal: d.IntN(16)}
}

func (d dice) capType() api.Type {
	c := d.capability()
	lo, hi := d.number(), d.number()
	return api.Type{Cap: true, Base: c.Base, End: c.End, Lo: min(lo, hi), Hi: max(lo, hi), Perms: c.Perms, Seal: c.Seal}
}

func (d dice) types() []api.Type {
	l := make([]api.Type, d.IntN(api.MaxArgs+1))
	for i := range l {
		if d.IntN(2) == 0 {
			l[i] = d.capType()
		}
	}
	return l
}

func (d dice) region(from uint64) api.Region {
	r := api.Region{Base: from + 16*d.Uint64N(20), Len: 16 + 16*d.Uint64N(20)}
	if d.IntN(2) == 0 {
		for range r.Len / 16 {
			t := d.capType()
			r.Slots = append(r.Slots, api.Slot{Type: t, Cursor: []uint64{t.Lo, t.Hi, t.Lo + (t.Hi-t.Lo)/2}[d.IntN(3)]})
		}
		return r
	}
	data := make([]byte, d.IntN(int(r.Len)+1))
	for i := range data {
		data[i] = byte(d.number())
	}
	r.Data = strings.TrimRight(string(data), "\x00")
	return r
}

func (d dice) comp(gates int) api.Comp {
	var c api.Comp
	for reg := api.Roots; reg < api.Regs; reg++ {
		if d.IntN(3) == 0 {
			c.Roots = append(c.Roots, api.Root{Reg: reg, Cap: d.capability()})
		}
	}
	c.Code = make([]api.Inst, 1+d.IntN(30))
	for i := range c.Code {
		c.Code[i] = d.inst(len(c.Code), gates)
	}
	return c
}

func (d dice) inst(code, gates int) api.Inst {
	for {
		i := api.Inst{Op: api.Op(d.IntN(80)), A: d.IntN(16), B: d.IntN(16) * d.IntN(2), C: d.IntN(16) * d.IntN(2), Imm: d.IntN(40) * d.IntN(2)}
		shape := instr.Shape(i.Op)
		if instr.Right(i) == api.OK && (!strings.Contains(shape, "t") || i.Imm < code) && (!strings.Contains(shape, "g") || i.Imm < gates) {
			return i
		}
	}
}

func (d dice) program() api.Image {
	m := api.Image{Depth: 1 + d.IntN(api.MaxDepth), Gates: make([]api.Gate, 1+d.IntN(api.MaxGates))}
	end := uint64(0)
	for range d.IntN(api.MaxRegions + 1) {
		m.Regions = append(m.Regions, d.region(end))
		last := m.Regions[len(m.Regions)-1]
		end = last.Base + last.Len
	}
	for range 1 + d.IntN(api.MaxComps) {
		m.Comps = append(m.Comps, d.comp(len(m.Gates)))
	}
	for i := range m.Gates {
		comp := d.IntN(len(m.Comps))
		m.Gates[i] = api.Gate{Comp: comp, Entry: d.IntN(len(m.Comps[comp].Code)), Args: d.types(), Results: d.types()}
	}
	return m
}

func TestWhatIsWrittenIsRead(t *testing.T) {
	d := rolled()
	for range 300 {
		m := d.program()
		checkRight(t, "a program", m, api.OK)
		s := written(t, m)
		got, e, at := image.Decode(s)
		if !same(got, m) || e != api.OK || at != 0 {
			t.Fatalf("4.10: %+v was read as %+v, %d, %d", m, got, e, at)
		}
		if again := written(t, got); again != s {
			t.Fatalf("4.10: %q is read and written %q", s, again)
		}
	}
}

func TestCopyStaysRight(t *testing.T) {
	d := rolled()
	for range 100 {
		m := d.program()
		checkRight(t, "a copy", image.Copy(m), api.OK)
		if a, b := written(t, m), written(t, image.Copy(m)); a != b {
			t.Fatalf("4.10: a copy of %+v is written otherwise", m)
		}
	}
	for _, fault := range faults() {
		m := rich()
		fault.do(&m)
		checkRight(t, "a copy with a wrong "+fault.what, image.Copy(m), fault.want)
	}
}

// TestWhatIsReadIsWritten puts each byte at each place of right bytes: what is read then is written so.
func TestWhatIsReadIsWritten(t *testing.T) {
	for _, s := range []string{leastBytes, strings.Join(richBytes(), "")} {
		read := 0
		for at := range s {
			for b := range 256 {
				read += readIsWritten(t, set(s, at, byte(b)))
			}
		}
		if read <= len(s) {
			t.Errorf("no other rows of bytes than the first are programs: %d of them", read)
		}
	}
}

// TestShiftedBytes leaves out bytes, and puts some in.
func TestShiftedBytes(t *testing.T) {
	s := strings.Join(richBytes(), "")
	for at := range s {
		for n := range min(20, len(s)-at) {
			readIsWritten(t, s[:at]+s[at+n:])
			readIsWritten(t, s[:at]+s[at:at+n]+s[at:])
			readIsWritten(t, s[:at]+strings.Repeat("\x00", n)+s[at:])
		}
	}
}

// readIsWritten tells by 1 that the bytes are a program.
func readIsWritten(t *testing.T, s string) int {
	t.Helper()
	m, e, at := image.Decode(s)
	if e != api.OK {
		if !empty(m) || at < 0 || at > len(s) {
			t.Fatalf("4.9: Decode(%q) = %+v, %d, %d", s, m, e, at)
		}
		return 0
	}
	if at != 0 || written(t, m) != s {
		t.Fatalf("4.10: %q is read as %+v, which is written otherwise", s, m)
	}
	return 1
}

// TestWrittenAlikeIsTheSame holds programs of which each differs from rich in one thing against one another.
func TestWrittenAlikeIsTheSame(t *testing.T) {
	l := []api.Image{rich()}
	for _, do := range oneThing() {
		m := rich()
		do(&m)
		checkRight(t, "a program of which one thing is another", m, api.OK)
		l = append(l, m)
	}
	for i, a := range l {
		for _, b := range l[:i] {
			if written(t, a) == written(t, b) {
				t.Errorf("4.10: %+v and %+v are written alike", a, b)
			}
		}
	}
}

// oneThing has a change for each number that stands in a program.
func oneThing() []func(m *api.Image) {
	l := []func(m *api.Image){
		func(m *api.Image) { m.Depth++ },
		func(m *api.Image) { m.Regions = m.Regions[:2] },
		func(m *api.Image) { m.Regions = append(m.Regions, api.Region{Base: 65520, Len: 16}) },
		func(m *api.Image) { m.Regions[0].Base = 16 },
		func(m *api.Image) { m.Regions[0].Len = 16 },
		func(m *api.Image) { m.Regions[0].Data = "a\x00c" },
		func(m *api.Image) { m.Regions[0].Data = "a\x00b\x00\x00\x00\x00b" },
		func(m *api.Image) { m.Regions[1].Slots[0].Cursor++ },
		func(m *api.Image) { m.Regions[1].Slots, m.Regions[1].Len = m.Regions[1].Slots[:1], 16 },
		func(m *api.Image) { m.Regions[1].Slots = nil },
		func(m *api.Image) { m.Comps = append(m.Comps, m.Comps[1]) },
		func(m *api.Image) { m.Comps[0].Roots[0].Reg = 9 },
		func(m *api.Image) { m.Comps[0].Roots[0].Cap.Base++ },
		func(m *api.Image) { m.Comps[0].Roots[0].Cap.End++ },
		func(m *api.Image) { m.Comps[0].Roots[0].Cap.Cursor += 1 << 56 },
		func(m *api.Image) { m.Comps[0].Roots[0].Cap.Perms = 1 },
		func(m *api.Image) { m.Comps[0].Roots[0].Cap.Seal = 1 },
		func(m *api.Image) { m.Comps[0].Roots = m.Comps[0].Roots[:1] },
		func(m *api.Image) { m.Comps[0].Code[0].Imm = 7 },
		func(m *api.Image) { m.Comps[0].Code = append(m.Comps[0].Code, api.Inst{Op: api.RET}) },
		func(m *api.Image) { m.Gates[0].Comp = 1; m.Gates[0].Entry = 1 },
		func(m *api.Image) { m.Gates[0].Entry = 2 },
		func(m *api.Image) { m.Gates[0].Args = m.Gates[0].Args[:1] },
		func(m *api.Image) { m.Gates[0].Args, m.Gates[0].Results = m.Gates[0].Results, m.Gates[0].Args },
		func(m *api.Image) { slices.Reverse(m.Gates[1].Results) },
		func(m *api.Image) { m.Gates = append(m.Gates, m.Gates[0]) },
	}
	for _, change := range []func(x *api.Type){
		func(x *api.Type) { *x = api.Type{Cap: true, Hi: top} },
		func(x *api.Type) { x.Base++ }, func(x *api.Type) { x.End++ }, func(x *api.Type) { x.Lo++ }, func(x *api.Type) { x.Hi++ }, func(x *api.Type) { x.Perms = 1 }, func(x *api.Type) { x.Seal++ },
	} {
		l = append(l,
			func(m *api.Image) { change(&m.Regions[1].Slots[0].Type) },
			func(m *api.Image) { change(&m.Gates[0].Args[1]) },
			func(m *api.Image) { change(&m.Gates[1].Results[2]) })
	}
	return l
}

// TestListsWithoutElementsAreAlike writes programs whose empty lists are nil, and whose are not.
func TestListsWithoutElementsAreAlike(t *testing.T) {
	m := least()
	m.Regions = []api.Region{}
	m.Comps[0].Roots = []api.Root{}
	m.Gates[0].Args, m.Gates[0].Results = []api.Type{}, []api.Type{}
	checkEncode(t, "example 1 with empty lists", m, leastBytes, api.OK)
}
