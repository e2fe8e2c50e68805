package asm_test

import (
	"fmt"
	"math/rand/v2"
	"reflect"
	"slices"
	"strings"
	"testing"

	"paddock/api"
	"paddock/asm"
	"paddock/image"
	"paddock/instr"
)

// scribe makes right programs and writes them as somebody might by hand, the same ones in each run of the tests.
type scribe struct {
	*rand.Rand
	text strings.Builder
}

func newScribe() *scribe { return &scribe{Rand: rand.New(rand.NewPCG(5, 5))} }

// some is a number of few bits more often than one of many.
func (s *scribe) some() uint64 { return s.Uint64() >> s.IntN(65) }

func (s *scribe) perms() api.Perms { return api.Perms(s.IntN(128)) &^ api.Exec }

func (s *scribe) kind() api.Type {
	ends := []uint64{s.Uint64N(1<<32 + 1), s.Uint64N(1<<32 + 1)}
	points := []uint64{s.some(), s.some()}
	return api.Type{Cap: true, Base: slices.Min(ends), End: slices.Max(ends), Lo: slices.Min(points), Hi: slices.Max(points), Perms: s.perms(), Seal: s.IntN(16)}
}

func (s *scribe) kinds() []api.Type {
	l := make([]api.Type, s.IntN(8))
	for n := range l {
		if s.IntN(3) == 0 {
			l[n] = s.kind()
		}
	}
	return l
}

func (s *scribe) regions() []api.Region {
	var l []api.Region
	for at := uint64(0); len(l) < s.IntN(9); {
		r := api.Region{Base: at + 16*s.Uint64N(9), Len: 16 + 16*s.Uint64N(9)}
		at = r.Base + r.Len
		if s.IntN(2) == 0 {
			for range r.Len / 16 {
				t := s.kind()
				r.Slots = append(r.Slots, api.Slot{Type: t, Cursor: []uint64{t.Lo, t.Hi}[s.IntN(2)]})
			}
		} else if s.IntN(3) > 0 {
			r.Data = strings.Repeat("\x00", s.IntN(9)) + string([]byte{byte(s.IntN(256)), byte(1 + s.IntN(255))})
		}
		l = append(l, r)
	}
	return l
}

func (s *scribe) comp(gates int) api.Comp {
	c := api.Comp{Code: make([]api.Inst, 1+s.IntN(20))}
	for reg := 8; reg < 16; reg++ {
		if s.IntN(4) == 0 {
			c.Roots = append(c.Roots, api.Root{Reg: reg, Cap: image.CapOf(s.kind(), s.some())})
		}
	}
	for n := range c.Code {
		c.Code[n] = s.inst(len(c.Code), gates)
	}
	return c
}

// inst throws instructions until one is right.
func (s *scribe) inst(code, gates int) api.Inst {
	for {
		i := api.Inst{Op: api.Op(s.IntN(76)), A: s.IntN(16) * s.IntN(2), B: s.IntN(16) * s.IntN(2), C: s.IntN(256) * s.IntN(2) >> (4 * s.IntN(2)), Imm: (s.IntN(300) - 50) * s.IntN(2)}
		shape := instr.Shape(i.Op)
		if instr.Right(i) == api.OK && (!strings.Contains(shape, "t") || i.Imm < code) && (!strings.Contains(shape, "g") || i.Imm < gates) {
			return i
		}
	}
}

func (s *scribe) program() api.Image {
	m := api.Image{Depth: 1 + s.IntN(16), Regions: s.regions(), Gates: make([]api.Gate, 1+s.IntN(16))}
	for range 1 + s.IntN(4) {
		m.Comps = append(m.Comps, s.comp(len(m.Gates)))
	}
	for n := range m.Gates {
		comp := s.IntN(len(m.Comps))
		m.Gates[n] = api.Gate{Comp: comp, Entry: s.IntN(len(m.Comps[comp].Code)), Args: s.kinds(), Results: s.kinds()}
	}
	return m
}

// put writes a line: its tokens with blanks about them, maybe a remark, and lines that say nothing.
func (s *scribe) put(tokens ...string) {
	blanks := func(least int) string {
		return strings.Repeat([]string{" ", "\t", " \t"}[s.IntN(3)], least+s.IntN(3)/2)
	}
	s.text.WriteString(blanks(0))
	for n, token := range tokens {
		if n > 0 {
			s.text.WriteString(blanks(1))
		}
		s.text.WriteString(token)
	}
	s.text.WriteString(blanks(0) + []string{"", "", ";", "; halt r1 @ \xff ;"}[s.IntN(4)] + "\n")
	s.text.WriteString([]string{"", "", "", "\n", "\t \n", ";comp\n"}[s.IntN(6)])
}

func (s *scribe) number(n uint64) string {
	switch {
	case s.IntN(3) == 0:
		return fmt.Sprintf("0x%x", n)
	case s.IntN(4) == 0:
		return fmt.Sprintf("%020d", n)
	case n == 0 && s.IntN(3) == 0:
		return "-0"
	}
	return fmt.Sprint(n)
}

func (s *scribe) numbers(l ...uint64) []string {
	var texts []string
	for _, n := range l {
		texts = append(texts, s.number(n))
	}
	return texts
}

func (s *scribe) permsText(perms api.Perms) string {
	letters := []byte(orders(int(perms))[0])
	s.Shuffle(len(letters), func(i, j int) { letters[i], letters[j] = letters[j], letters[i] })
	if len(letters) == 0 {
		return "-"
	}
	return string(letters)
}

func (s *scribe) kindTokens(l ...api.Type) []string {
	var tokens []string
	for _, t := range l {
		if !t.Cap {
			tokens = append(tokens, "int")
			continue
		}
		tokens = slices.Concat(tokens, []string{"cap"}, s.numbers(t.Base, t.End, t.Lo, t.Hi), []string{s.permsText(t.Perms), s.number(uint64(t.Seal))})
	}
	return tokens
}

// gateName is the name of a gate, which may be that of a label, too.
func gateName(n int) string { return fmt.Sprintf("at%d", n) }

// target is one of an instruction's names, or its number.
func (s *scribe) target(n int) string {
	if s.IntN(3) == 0 {
		return s.number(uint64(n))
	}
	return fmt.Sprintf([]string{"at%d", "r%d", "L%d", "ret_%d"}[s.IntN(4)], n)
}

// labels writes all names of an instruction but the one that stands in its line.
func (s *scribe) labels(n int) {
	s.put(fmt.Sprintf("at%d:", n))
	s.put(fmt.Sprintf("r%d:", n), fmt.Sprintf("L%d:", n))
}

func (s *scribe) instTokens(i api.Inst) []string {
	tokens := []string{instr.Name(i.Op)}
	fields := []int{i.A, i.B, i.C}
	for _, letter := range instr.Shape(i.Op) {
		switch {
		case letter == 'r':
			tokens, fields = append(tokens, fmt.Sprintf("r%d", fields[0])), fields[1:]
		case letter == 'p':
			tokens = append(tokens, s.permsText(api.Perms(i.Imm)))
		case letter == 't':
			tokens = append(tokens, s.target(i.Imm))
		case letter == 'g':
			tokens = append(tokens, []string{s.number(uint64(i.Imm)), gateName(i.Imm)}[s.IntN(2)])
		case letter == 'c' && i.Op != api.TRAP:
			tokens = append(tokens, s.number(uint64(i.C)))
		case i.Imm < 0:
			tokens = append(tokens, fmt.Sprint(i.Imm))
		default:
			tokens = append(tokens, s.number(uint64(i.Imm)))
		}
	}
	return tokens
}

// write writes a program, with labels at all of its instructions.
func (s *scribe) write(m api.Image) string {
	s.text.Reset()
	s.put("depth", s.number(uint64(m.Depth)))
	for _, r := range m.Regions {
		line := append([]string{"region"}, s.numbers(r.Base, r.Len)...)
		switch {
		case len(r.Slots) > 0:
			line = append(line, "slots")
		case r.Data != "" || s.IntN(2) == 0:
			line = append(line, "bytes", fmt.Sprintf("#%x", r.Data))
		default:
			line = append(line, "bytes")
		}
		s.put(line...)
		for _, slot := range r.Slots {
			s.put(slices.Concat([]string{"slot"}, s.kindTokens(slot.Type), []string{"at", s.number(slot.Cursor)})...)
		}
	}
	for _, c := range m.Comps {
		s.put("comp")
		for _, r := range c.Roots {
			s.put(slices.Concat([]string{"root", fmt.Sprintf("r%d", r.Reg)}, s.numbers(r.Cap.Base, r.Cap.End, r.Cap.Cursor), []string{s.permsText(r.Cap.Perms), s.number(uint64(r.Cap.Seal))})...)
		}
		for n, i := range c.Code {
			s.labels(n)
			s.put(append([]string{fmt.Sprintf("ret_%d:", n)}, s.instTokens(i)...)...)
		}
		s.labels(len(c.Code))
	}
	for n, g := range m.Gates {
		s.put(slices.Concat([]string{"gate", gateName(n), s.number(uint64(g.Comp)), s.target(g.Entry)}, s.kindTokens(g.Args...), []string{"->"}, s.kindTokens(g.Results...))...)
	}
	return s.text.String()
}

func printed(t *testing.T, m api.Image) string {
	t.Helper()
	s, e := asm.Print(m)
	if e != api.OK {
		t.Fatalf("Print(%s): %d", short(m), e)
	}
	return s
}

// TestThereAndBack reads what Print wrote of many programs, and what was written of them by hand.
func TestThereAndBack(t *testing.T) {
	s := newScribe()
	for range 300 {
		m := s.program()
		if e := image.Right(m); e != api.OK {
			t.Fatalf("the program is not right: %d", e)
		}
		text := printed(t, m)
		checkParse(t, "5.5", text, m)
		checkParse(t, "5.5", s.write(m), m)
		got, _, _ := asm.Parse(s.write(m))
		if again := printed(t, got); again != text {
			t.Errorf("5.5: what was read is written %q, want %q", short(again), short(text))
		}
	}
}

// TestTwoProgramsTwoTexts: each program has a text of its own.
func TestTwoProgramsTwoTexts(t *testing.T) {
	s := newScribe()
	were := map[string]api.Image{}
	for range 300 {
		m := s.program()
		text := printed(t, m)
		if other, there := were[text]; there && !same(m, other) {
			t.Errorf("5.5: two programs are written %q", short(text))
		}
		were[text] = m
	}
}

// TestWhatIsTakenIsWritten puts each of some bytes at each place of a text: what Parse takes then Print writes so that Parse gives the same.
func TestWhatIsTakenIsWritten(t *testing.T) {
	taken := 0
	for _, text := range []string{sample, samplePrinted, rich} {
		for at := range text {
			for _, b := range []string{"", " ", "\n", ";", "0", "1", "a", "r", "x", "-", ":", "#", "\xe9"} {
				for _, s := range []string{text[:at] + b + text[at+1:], text[:at] + b + text[at:]} {
					taken += takenIsWritten(t, s)
				}
			}
		}
	}
	if taken < 1000 {
		t.Errorf("only %d texts were taken", taken)
	}
}

func takenIsWritten(t *testing.T, text string) int {
	t.Helper()
	m, e, line := asm.Parse(text)
	if e != api.OK {
		if !reflect.DeepEqual(m, api.Image{}) || line < 0 || line > strings.Count(text, "\n")+1 {
			t.Fatalf("5.3: Parse(%q) = %s, %d, line %d", text, short(m), e, line)
		}
		return 0
	}
	if line != 0 || image.Right(m) != api.OK {
		t.Fatalf("5.3: Parse(%q) = %s, line %d", text, short(m), line)
	}
	checkParse(t, "5.5", printed(t, m), m)
	return 1
}

// area is the memory of a list, spare room too.
type area struct {
	from, to uintptr
}

// areas are those of all lists that a value holds.
func areas(v reflect.Value) []area {
	var l []area
	switch v.Kind() {
	case reflect.Struct:
		for n := range v.NumField() {
			l = append(l, areas(v.Field(n))...)
		}
	case reflect.Slice:
		if v.Cap() > 0 {
			l = append(l, area{v.Pointer(), v.Pointer() + uintptr(v.Cap())*v.Type().Elem().Size()})
		}
		for n := range v.Len() {
			l = append(l, areas(v.Index(n))...)
		}
	}
	return l
}

// TestParseAnswersNewMemory looks at the lists of two answers for one text.
func TestParseAnswersNewMemory(t *testing.T) {
	for _, text := range []string{sample, rich, leastPrinted} {
		a, _, _ := asm.Parse(text)
		b, _, _ := asm.Parse(text)
		l := append(areas(reflect.ValueOf(a)), areas(reflect.ValueOf(b))...)
		for n, x := range l {
			for _, y := range l[:n] {
				if x.from < y.to && y.from < x.to {
					t.Errorf("two lists of Parse(%q) share memory", short(text))
				}
			}
		}
	}
}
