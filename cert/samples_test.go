package cert_test

import (
	"fmt"
	"maps"
	"slices"
	"strings"
	"testing"

	"paddock/api"
	"paddock/asm"
	"paddock/cert"
	"paddock/checker"
	"paddock/image"
	"paddock/transfer"
)

const top = ^uint64(0)

const rw = api.Load | api.Store

// parse reads a program, in whose text a semicolon stands for the end of a line.
func parse(t testing.TB, text string) api.Image {
	t.Helper()
	text = strings.ReplaceAll(text, ";", "\n")
	m, e, line := asm.Parse(text)
	if e != api.OK {
		t.Fatalf("Parse: %d, line %d of\n%s", e, line, text)
	}
	return m
}

const (
	regions = "region 0 64 bytes #0102;region 64 32 slots;slot cap 0 64 5 5 rw 0 at 5;slot cap 0 64 0 0 r 5 at 0;"
	held    = "root r8 0 32 0 rw 0;root r9 64 96 64 cd 0;"
)

// gated is a program of one compartment with such gates, each told by its entry and types, as `0 int ->`.
func gated(t testing.TB, code string, gates ...string) api.Image {
	t.Helper()
	text := "depth 2;" + regions + "comp;" + held + code
	for k, g := range gates {
		text += ";gate g" + string(rune('a'+k)) + " 0 " + g
	}
	return parse(t, text)
}

// alone has one gate, at the first instruction, without arguments.
func alone(t testing.TB, code string) api.Image {
	t.Helper()
	return gated(t, code, "0 ->")
}

// rounds is the chapter's example 2.
const rounds = "in r1;a: glt r1 32 0;addi r1 r1 -1;bne r1 r0 a;halt r1"

// What may be known of a register.
func integer(lo, hi uint64) api.RType {
	return api.RType{Kind: api.AnInt, N: api.Span{Lo: lo, Hi: hi}}
}

func single(n uint64) api.RType { return integer(n, n) }

func anyInt() api.RType { return integer(0, top) }

func nothing() api.RType { return api.RType{} }

// pointing is r8's capability of these tests, that points somewhere.
func pointing(lo, hi uint64) api.RType {
	return api.RType{Kind: api.ACap, End: api.Span{Lo: 32, Hi: 32}, Point: api.Span{Lo: lo, Hi: hi}, Must: rw, May: rw}
}

// but is what is known of a register, with a change.
func but(r api.RType, change func(r *api.RType)) api.RType {
	change(&r)
	return r
}

// says is what a certificate says of an instruction.
type says struct {
	pc   int
	regs [api.Regs]api.RType
}

// begins is what is known where a run begins without arguments, in a compartment with the roots of these tests.
func begins() [api.Regs]api.RType {
	var l [api.Regs]api.RType
	for k := range l {
		l[k] = single(0)
	}
	l[8] = pointing(0, 0)
	l[9] = api.RType{Kind: api.ACap, Base: api.Span{Lo: 64, Hi: 64}, End: api.Span{Lo: 96, Hi: 96}, Point: api.Span{Lo: 64, Hi: 64}, Must: api.LoadCap | api.StoreCap, May: api.LoadCap | api.StoreCap}
	return l
}

// at says of an instruction what is known where a run begins, but of r1, r2, .. what is told.
func at(pc int, of ...api.RType) says {
	s := says{pc, begins()}
	copy(s.regs[1:], of)
	return s
}

// blank says that nothing is known of any register.
func blank(pc int) says { return says{pc: pc} }

// with is the same, but for a register.
func (s says) with(k int, r api.RType) says {
	s.regs[k] = r
	return s
}

// low is a number of so many bytes, the lowest first.
func low(n uint64, size int) string {
	var s strings.Builder
	for range size {
		s.WriteByte(byte(n % 256))
		n /= 256
	}
	return s.String()
}

// spans are spans as bytes.
func spans(l ...api.Span) string {
	s := ""
	for _, x := range l {
		s += low(x.Lo, 8) + low(x.Hi, 8)
	}
	return s
}

// register is what is known of one, as bytes, by 22.1's words.
func register(r api.RType) string {
	switch r.Kind {
	case api.AnInt:
		return "\x01" + spans(r.N)
	case api.ACap:
		return "\x02" + spans(r.Base, r.End, r.Point) + low(uint64(r.Must), 1) + low(uint64(r.May), 1) + low(uint64(r.Seal+1), 1)
	}
	return "\x00"
}

func (s says) bytes() string {
	b := low(uint64(s.pc), 2)
	for _, r := range s.regs {
		b += register(r)
	}
	return b
}

// row is what is said for one gate.
func row(l ...says) string {
	s := low(uint64(len(l)), 2)
	for _, x := range l {
		s += x.bytes()
	}
	return s
}

// certificate is one of such rows.
func certificate(rows ...string) string {
	return "PADCE1" + low(uint64(len(rows)), 1) + strings.Join(rows, "")
}

// saying is the certificate that says all that is Live in a table.
func saying(t api.Table) string {
	var rows []string
	for _, states := range t {
		var l []says
		for pc, s := range states {
			if s.Live {
				l = append(l, says{pc, s.Regs})
			}
		}
		rows = append(rows, row(l...))
	}
	return certificate(rows...)
}

// copied is a table in memory of its own.
func copied(t api.Table) api.Table {
	l := slices.Clone(t)
	for k := range l {
		l[k] = slices.Clone(l[k])
	}
	return l
}

func sameTable(a, b api.Table) bool {
	return slices.EqualFunc(a, b, func(x, y []api.State) bool { return slices.Equal(x, y) })
}

// checkVerify looks what Verify tells of a certificate, and whether Table tells the same error.
func checkVerify(t testing.TB, what string, m api.Image, s string, e api.Errno, gate, pc int) {
	t.Helper()
	promise := "22.3"
	if e == api.ErrCert {
		promise = "22.1"
	}
	if f, g, p := cert.Verify(m, s); f != e || g != gate || p != pc {
		t.Errorf("%s: %s: Verify: %d, %d, %d, want %d, %d, %d", promise, what, f, g, p, e, gate, pc)
	}
	x, f := cert.Table(m, s)
	if f != e || (x == nil) != (e != api.OK) {
		t.Errorf("22.4: %s: Table: %d rows, %d, want %d", what, len(x), f, e)
	}
}

func checkShows(t testing.TB, what string, m api.Image, s string) {
	t.Helper()
	checkVerify(t, what, m, s, api.OK, 0, 0)
}

func checkNone(t testing.TB, what string, m api.Image, s string) {
	t.Helper()
	checkVerify(t, what, m, s, api.ErrCert, 0, 0)
}

// checkMake looks what Make makes, and whether Verify lets that by.
func checkMake(t testing.TB, what string, m api.Image, want string) {
	t.Helper()
	s, e := cert.Make(m)
	if s != want || e != api.OK {
		t.Errorf("22.2: %s: Make: %d,\n%s\nwant\n%s", what, e, told(m, s), told(m, want))
		return
	}
	checkShows(t, what, m, s)
}

func checkRefused(t testing.TB, what string, m api.Image, e api.Errno) {
	t.Helper()
	if s, f := cert.Make(m); s != "" || f != e {
		t.Errorf("22.2: %s: Make: %q, %d, want nothing, %d", what, s, f, e)
	}
}

// made is what Make makes of a program that is taken.
func made(t testing.TB, m api.Image) string {
	t.Helper()
	s, e := cert.Make(m)
	if e != api.OK {
		t.Fatalf("22.2: Make: %d, of\n%s", e, shown(m))
	}
	return s
}

// table is what Table answers of a certificate that shows a program.
func table(t testing.TB, m api.Image, s string) api.Table {
	t.Helper()
	x, e := cert.Table(m, s)
	if e != api.OK {
		t.Fatalf("22.4: Table: %d, of\n%s", e, shown(m))
	}
	return x
}

func isRight(m api.Image) bool { return image.Right(m) == api.OK }

func isTaken(m api.Image) bool { return isRight(m) && checker.Check(m).Reason == api.Fine }

func isEntry(g api.Gate) bool {
	return !slices.ContainsFunc(g.Args, func(t api.Type) bool { return t.Cap })
}

// hasReason tells whether some Live state of a table has a Reason.
func hasReason(m api.Image, x api.Table) bool {
	for gate, states := range x {
		for pc, s := range states {
			if transfer.Do(m, gate, pc, s).Reason != api.Fine {
				return true
			}
		}
	}
	return false
}

// told is what a certificate says, for people: of each gate, by instruction, what is known of registers that are not surely 0.
func told(m api.Image, s string) string {
	l, ok := modelRead(m, s)
	if !ok {
		return fmt.Sprintf("no certificate, of %d bytes", len(s))
	}
	text := ""
	for gate, x := range l {
		for _, pc := range slices.Sorted(maps.Keys(x)) {
			text += fmt.Sprintf("gate %d, instruction %d:", gate, pc)
			for k, r := range x[pc].Regs {
				if r != single(0) {
					text += fmt.Sprintf(" r%d %v", k, r)
				}
			}
			text += "\n"
		}
	}
	return text
}

// shown is a program as a text, for people.
func shown(m api.Image) string {
	text, _ := asm.Print(m)
	return text
}

// table0 is what Table answers, without the error.
func table0(m api.Image, s string) api.Table {
	x, _ := cert.Table(m, s)
	return x
}

// of says the same of another instruction.
func (s says) of(pc int) says {
	s.pc = pc
	return s
}
