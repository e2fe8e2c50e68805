package cert_test

import (
	"fmt"
	"strings"
	"testing"

	"paddock/api"
)

// yardstick is a program of two gates, and a certificate that says all sorts of things of it, most of them where nobody comes.
func yardstick(t testing.TB) (api.Image, string) {
	t.Helper()
	m := gated(t, rounds+";trap 1;trap 2", "0 ->", "5 ->")
	unsealed := but(pointing(3, top), func(r *api.RType) { r.Seal, r.Must, r.May = -1, 0, api.AllPerms })
	return m, certificate(
		row(at(1, anyInt()), blank(5), at(6, integer(1, 2), unsealed).with(8, nothing())),
		row(at(4).with(15, pointing(0, 0)), at(5, single(0)), at(6, single(top))))
}

func TestFirstBytes(t *testing.T) {
	m, s := yardstick(t)
	checkShows(t, "the whole", m, s)
	for _, bytes := range []string{"", "P", "PADCE", "PADCE1", "PADCE2" + s[6:], "padce1" + s[6:], "PADDK1" + s[6:], s[1:], " " + s, "\x00" + s, s[6:], "PADCE1" + s, strings.Repeat("\x00", len(s)), strings.Repeat("P", api.MaxCert)} {
		checkNone(t, fmt.Sprintf("%.12q", bytes), m, bytes)
	}
	for k := range 6 {
		for bit := range 8 {
			checkNone(t, fmt.Sprintf("the bit %d of the byte %d turned", bit, k), m, s[:k]+string([]byte{s[k] ^ 1<<bit})+s[k+1:])
		}
	}
}

// TestCut: at each place within; and with something behind.
func TestCut(t *testing.T) {
	m, s := yardstick(t)
	for n := range len(s) {
		checkNone(t, fmt.Sprintf("%d bytes of %d", n, len(s)), m, s[:n])
	}
	for _, rest := range []string{"\x00", "\x01", "\xff", "\x00\x00", s, row(), strings.Repeat("\x00", 1000)} {
		checkNone(t, fmt.Sprintf("%d bytes behind it", len(rest)), m, s+rest)
	}
	for n := 7; n < len(s); n++ {
		checkNone(t, fmt.Sprintf("without the byte %d", n), m, s[:n]+s[n+1:])
	}
}

// TestGates: as many as the program has.
func TestGates(t *testing.T) {
	m := gated(t, "in r1;trap 0", "0 ->", "1 ->", "0 ->")
	for n := range 20 {
		rows := strings.Repeat(row(), n)
		whole := "PADCE1" + low(uint64(n), 1) + rows
		if n == 3 {
			checkShows(t, "three gates", m, whole)
			continue
		}
		checkNone(t, fmt.Sprintf("%d gates", n), m, whole)
		checkNone(t, fmt.Sprintf("three gates, and rows of %d", n), m, "PADCE1\x03"+rows)
		checkNone(t, fmt.Sprintf("%d gates, and rows of three", n), m, "PADCE1"+low(uint64(n), 1)+row()+row()+row())
	}
	for _, n := range []uint64{3 + 16, 131, 254, 255} {
		checkNone(t, fmt.Sprintf("%d gates", n), m, "PADCE1"+low(n, 1)+strings.Repeat(row(), int(n)))
	}
}

// TestNumbers: those of the instructions rise, and are there.
func TestNumbers(t *testing.T) {
	// The second gate's compartment has fewer instructions than the first one's.
	m := parse(t, "depth 1;comp;trap 0;trap 1;trap 2;trap 3;trap 4;comp;trap 0;trap 1;gate g 0 0 ->;gate h 1 0 ->")
	numbers := func(l []int) string {
		s := low(uint64(len(l)), 2)
		for _, pc := range l {
			s += blank(pc).bytes()
		}
		return s
	}
	for _, l := range [][]int{{}, {0}, {4}, {0, 1}, {3, 4}, {0, 4}, {0, 1, 2, 3, 4}, {0, 2, 4}} {
		checkShows(t, fmt.Sprint(l), m, certificate(numbers(l), row()))
	}
	for _, l := range [][]int{{5}, {0, 5}, {4, 5}, {0, 1, 2, 3, 4, 5}, {1, 0}, {4, 0}, {4, 3}, {0, 2, 1}, {0, 0}, {4, 4}, {0, 1, 1}, {0, 0, 1}, {65535}, {0, 65535}, {256}, {260}, {32768}, {65535, 0}, {0, 1, 2, 3, 4, 0}, {2, 3, 4, 4}} {
		checkNone(t, fmt.Sprint(l), m, certificate(numbers(l), row()))
	}
	for _, l := range [][]int{{0}, {1}, {0, 1}} {
		checkShows(t, fmt.Sprint("the second gate: ", l), m, certificate(row(), numbers(l)))
	}
	for _, l := range [][]int{{2}, {1, 2}, {4}, {1, 1}, {1, 0}} {
		checkNone(t, fmt.Sprint("the second gate: ", l), m, certificate(row(), numbers(l)))
	}
	// The last of one gate says nothing about the first of the next one.
	checkShows(t, "4, then 0 of the next gate", m, certificate(numbers([]int{0, 4}), numbers([]int{0, 1})))
}

// TestHowMany: as many states as there are told.
func TestHowMany(t *testing.T) {
	m := alone(t, "trap 0;trap 1;trap 2")
	all := blank(0).bytes() + blank(1).bytes() + blank(2).bytes()
	checkShows(t, "three", m, certificate(low(3, 2)+all))
	for _, n := range []uint64{0, 1, 2, 4, 256, 256 + 3, 768, 65535} {
		checkNone(t, fmt.Sprintf("three, told as %d", n), m, certificate(low(n, 2)+all))
	}
	checkNone(t, "none, told as 65535", m, certificate("\xff\xff"))
	checkNone(t, "none, told as 1", m, certificate("\x01\x00"))
}

// TestFirstByteOfARegister: 0, 1 or 2, whatever stands behind it.
func TestFirstByteOfARegister(t *testing.T) {
	m := gated(t, "trap 0;trap 1", "1 ->")
	for k := range api.Regs {
		for kind := range 256 {
			front, rest := low(0, 2)+strings.Repeat("\x00", k), strings.Repeat("\x00", api.Regs-1-k)
			for _, size := range []int{0, 16, 51} {
				s := certificate(low(1, 2) + front + low(uint64(kind), 1) + strings.Repeat("\x00", size) + rest)
				what := fmt.Sprintf("r%d begins with %d, and %d bytes behind it", k, kind, size)
				if kind == 0 && size == 0 || kind == 1 && size == 16 || kind == 2 && size == 51 {
					checkShows(t, what, m, s)
				} else {
					checkNone(t, what, m, s)
				}
			}
		}
	}
}

// aloneSaid is a certificate of a program of one gate, which says of a register at the instruction 0 what stands there as bytes.
func aloneSaid(k int, bytes string) string {
	return certificate(low(1, 2) + low(0, 2) + strings.Repeat("\x00", k) + bytes + strings.Repeat("\x00", api.Regs-1-k))
}

// TestBuilt: what is known is rightly built. Where nobody comes anything may be said, if it is.
func TestBuilt(t *testing.T) {
	m := gated(t, "trap 0;trap 1", "1 ->")
	edges := []uint64{0, 1, 2, 255, 256, 1 << 32, 1<<63 - 1, 1 << 63, top - 1, top}
	wide := api.Span{Hi: top}
	capability := func(base, end, point api.Span, must, may, seal uint64) string {
		return "\x02" + spans(base, end, point) + low(must, 1) + low(may, 1) + low(seal, 1)
	}
	check := func(what string, bytes string, isBuilt bool) {
		t.Helper()
		for _, k := range []int{0, 1, 8, 15} {
			if s := aloneSaid(k, bytes); isBuilt {
				checkShows(t, what, m, s)
			} else {
				checkNone(t, what, m, s)
			}
		}
	}
	for _, lo := range edges {
		for _, hi := range edges {
			s := api.Span{Lo: lo, Hi: hi}
			check(fmt.Sprintf("an integer %v", s), "\x01"+spans(s), lo <= hi)
			check(fmt.Sprintf("a base %v", s), capability(s, wide, wide, 0, 0, 1), lo <= hi)
			check(fmt.Sprintf("an end %v", s), capability(wide, s, wide, 0, 0, 1), lo <= hi)
			check(fmt.Sprintf("a point %v", s), capability(wide, wide, s, 0, 0, 1), lo <= hi)
		}
	}
	for seal := range uint64(256) {
		check(fmt.Sprintf("the seal's byte %d", seal), capability(wide, wide, wide, 0, 0, seal), seal <= api.MaxSeal+1)
	}
	for must := range uint64(256) {
		for _, may := range []uint64{0, 1, 2, 3, 64, 126, 127, 128, 129, 254, 255, must} {
			isBuilt := must&^may == 0 && may <= 127
			s := aloneSaid(3, capability(wide, wide, wide, must, may, 0))
			what := fmt.Sprintf("surely %d of %d", must, may)
			if isBuilt {
				checkShows(t, what, m, s)
			} else {
				checkNone(t, what, m, s)
			}
		}
	}
	// A base above the end is rightly built all the same.
	check("a base above the end", capability(api.Span{Lo: 9, Hi: 9}, api.Span{Lo: 1, Hi: 1}, wide, 0, 0, 1), true)
}

// TestOneWrongRegister: in whatever register, instruction and gate it is said, though it would be shown otherwise.
func TestOneWrongRegister(t *testing.T) {
	m := gated(t, "trap 0;trap 1;trap 2", "0 ->", "1 ->")
	for gate := range 2 {
		for pc := range 3 {
			for k := range api.Regs {
				for _, bytes := range []string{register(integer(5, 4)), register(pointing(1, 0)), "\x03", register(but(pointing(0, 0), func(r *api.RType) { r.May = 1 }))} {
					rows := []string{row(blank(0), blank(1), blank(2)), row(blank(0), blank(1), blank(2))}
					rows[gate] = low(3, 2)
					for p := range 3 {
						if p == pc {
							rows[gate] += low(uint64(p), 2) + strings.Repeat("\x00", k) + bytes + strings.Repeat("\x00", api.Regs-1-k)
						} else {
							rows[gate] += blank(p).bytes()
						}
					}
					checkNone(t, fmt.Sprintf("gate %d, instruction %d, r%d: %q", gate, pc, k, bytes), m, certificate(rows...))
				}
			}
		}
	}
}

// TestEachByte: with another byte at each place it says something else, or is none; as 22.1's words read it.
func TestEachByte(t *testing.T) {
	t.Parallel()
	m, s := yardstick(t)
	for k := range s {
		for _, b := range []byte{0, 2, 3, 17, 255, s[k] + 1, s[k] ^ 128} {
			bytes := s[:k] + string([]byte{b}) + s[k+1:]
			want := modelVerify(m, bytes)
			checkVerify(t, fmt.Sprintf("the byte %d is %d", k, b), m, bytes, want.e, want.gate, want.pc)
			if x := table0(m, bytes); !sameTable(x, want.table) {
				t.Errorf("22.4: the byte %d is %d: another Table", k, b)
			}
		}
	}
}

// TestOneRowOfBytes: a certificate that is read and written again is the same.
func TestOneRowOfBytes(t *testing.T) {
	m, s := yardstick(t)
	l, ok := modelRead(m, s)
	if !ok {
		t.Fatalf("22.1: the model does not read it")
	}
	var rows []string
	for gate, x := range l {
		var states []says
		for pc := range m.Comps[m.Gates[gate].Comp].Code {
			if state, speaks := x[pc]; speaks {
				states = append(states, says{pc, state.Regs})
			}
		}
		rows = append(rows, row(states...))
	}
	if again := certificate(rows...); again != s {
		t.Errorf("22.1: written again it is %q, want %q", again, s)
	}
}

// TestNotRight: of a program that is not right no bytes are a certificate.
func TestNotRight(t *testing.T) {
	for what, m := range wrong(t) {
		if isRight(m) {
			t.Fatalf("%s: it is right", what)
		}
		for _, s := range []string{"", certificate(), certificate(row()), certificate(row(), row()), certificate(row(blank(0)), row())} {
			checkNone(t, what, m, s)
		}
		checkRefused(t, what, m, api.ErrCheck)
	}
	// Right, but for one thing that no run would ever see.
	m := alone(t, rounds)
	good := certificate(row(at(1, anyInt())))
	checkShows(t, "a right one", m, good)
	m.Depth = 0
	checkNone(t, "a depth of 0", m, good)
	m.Depth = api.MaxDepth
	checkShows(t, "the greatest depth", m, good)
	m.Depth++
	checkNone(t, "a depth above that", m, good)
	m.Depth = 1
	m.Regions[0].Len = 65
	checkNone(t, "a region of 65 bytes", m, good)
}

// wrong are programs that are not right, by what is wrong in them.
func wrong(t *testing.T) map[string]api.Image {
	t.Helper()
	good := func() api.Image {
		return parse(t, "depth 1;"+regions+"comp;"+held+"in r1;jmp 3;ret;ret;comp;jmp 1;ret;gate g 0 2 int -> int;gate h 1 0 ->")
	}
	spoilt := map[string]func(*api.Image){
		"the depth 0":              func(m *api.Image) { m.Depth = 0 },
		"the depth 17":             func(m *api.Image) { m.Depth = api.MaxDepth + 1 },
		"no gates":                 func(m *api.Image) { m.Gates = nil },
		"no compartments":          func(m *api.Image) { m.Comps = nil },
		"no code":                  func(m *api.Image) { m.Comps[1].Code = nil },
		"an entry behind the code": func(m *api.Image) { m.Gates[1].Entry = 2 },
		"an entry below 0":         func(m *api.Image) { m.Gates[0].Entry = -1 },
		"a compartment not there":  func(m *api.Image) { m.Gates[1].Comp = 2 },
		"a compartment below 0":    func(m *api.Image) { m.Gates[0].Comp = -1 },
		"a JMP behind the code":    func(m *api.Image) { m.Comps[1].Code[0].Imm = 2 },
		"a JMP below 0":            func(m *api.Image) { m.Comps[1].Code[0].Imm = -1 },
		"no operation":             func(m *api.Image) { m.Comps[0].Code[1].Op = 14 },
		"a register not there":     func(m *api.Image) { m.Comps[0].Code[0].A = 16 },
		"a CALL not there":         func(m *api.Image) { m.Comps[0].Code[1] = api.Inst{Op: api.CALL, Imm: 2} },
		"a root in r7":             func(m *api.Image) { m.Comps[0].Roots[0].Reg = 7 },
		"a region of no bytes":     func(m *api.Image) { m.Regions[0].Len = 0 },
		"a slot of integers":       func(m *api.Image) { m.Regions[1].Slots[0].Type = api.Type{} },
		"a type with Exec":         func(m *api.Image) { m.Gates[0].Args[0] = api.Type{Cap: true, Perms: api.Exec} },
		"a result that is not":     func(m *api.Image) { m.Gates[0].Results[0].Hi = 1 },
		"too much code":            func(m *api.Image) { m.Comps[1].Code = make([]api.Inst, api.MaxCode+1) },
		"too many gates":           func(m *api.Image) { m.Gates = make([]api.Gate, api.MaxGates+1) },
		"300 gates":                func(m *api.Image) { m.Gates = make([]api.Gate, 300) },
	}
	l := map[string]api.Image{
		"the empty program": {},
		"a JMP alone":       {Depth: 3, Comps: []api.Comp{{Code: []api.Inst{{Op: api.JMP, Imm: 1}}}}},
	}
	for what, spoil := range spoilt {
		m := good()
		spoil(&m)
		l[what] = m
	}
	return l
}
