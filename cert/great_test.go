package cert_test

import (
	"testing"

	"paddock/api"
	"paddock/cert"
	"paddock/checker"
)

// rounding is code that goes back to each of so many instructions, from itself; behind the first ones one more register has a capability.
func rounding(first, second int) []api.Inst {
	l := []api.Inst{{Op: api.IN, A: 1}, {Op: api.IN, A: 2}}
	loop := func(n int) {
		for range n {
			l = append(l, api.Inst{Op: api.BLT, A: 1, B: 2, Imm: len(l)})
		}
	}
	loop(first)
	l = append(l, api.Inst{Op: api.MOV, A: 3, B: 8})
	loop(second)
	return append(l, api.Inst{Op: api.HALT})
}

// rooted is a compartment of some code with so many roots.
func rooted(roots int, code []api.Inst) api.Comp {
	c := api.Comp{Code: code}
	for k := range roots {
		c.Roots = append(c.Roots, api.Root{Reg: api.Roots + k, Cap: api.Cap{End: 16, Perms: api.Load}})
	}
	return c
}

// sized is a program whose certificate, as Make makes it, has so many bytes, by 22.1's words: four gates of a full compartment, and one of another.
func sized(t *testing.T, bytes int) api.Image {
	t.Helper()
	const full = api.MaxCode - 4
	// What a state takes: its number, and of each register a byte, with 16 more of an integer, and 51 more of a capability.
	state := func(caps int) int { return 2 + 16 + 16*(api.Regs-caps) + 51*caps }
	left := bytes - 7 - 5*2 - 4*full*state(8)
	for n := 1; n <= full; n++ {
		for roots := 1; roots <= 8; roots++ {
			rest := left - n*state(roots)
			more := rest / 35
			if rest < 0 || rest%35 != 0 || more > n {
				continue
			}
			m := api.Image{Depth: 1, Comps: []api.Comp{rooted(8, rounding(full, 0)), rooted(roots, rounding(n-more, more))}, Gates: make([]api.Gate, 5)}
			m.Gates[2].Comp = 1
			return m
		}
	}
	t.Fatalf("no program has a certificate of %d bytes", bytes)
	return api.Image{}
}

// goneBack is a certificate of the states of Check's table that are gone back to, by 22.2's words.
func goneBack(m api.Image) string { return saying(kept(m, checker.Check(m).Table)) }

// TestJustMaxCert: a certificate of as many bytes as there may be, and less.
func TestJustMaxCert(t *testing.T) {
	for _, size := range []int{1 << 20, 1<<20 - 1, 1<<20 - 35} {
		m := sized(t, size)
		s := made(t, m)
		if len(s) != size || s != goneBack(m) {
			t.Errorf("22.2: Make: %d bytes, want %d", len(s), size)
		}
		checkShows(t, "a great one", m, s)
		for _, rest := range []string{"\x00", "\x01", s[:100]} {
			checkNone(t, "a great one, and some bytes", m, s+rest)
		}
		checkNone(t, "a great one, cut", m, s[:len(s)-1])
	}
}

// TestAboveMaxCert: with one byte more it is none, though all else of it is right.
func TestAboveMaxCert(t *testing.T) {
	for _, more := range []int{1, 2, 17, 554} {
		m := sized(t, 1<<20+more)
		if !isTaken(m) {
			t.Fatalf("it is not taken")
		}
		checkRefused(t, "one whose certificate would be too long", m, api.ErrCert)
		s := goneBack(m)
		if len(s) != 1<<20+more {
			t.Fatalf("it has %d bytes, want %d", len(s), 1<<20+more)
		}
		checkNone(t, "one that is too long", m, s)
		// The same without the last compartment's gate shows the rest.
		m.Gates = append(m.Gates[:2:2], m.Gates[3:]...)
		checkShows(t, "four gates of it", m, goneBack(m))
	}
}

// TestFarAboveMaxCert: as long as one could be.
func TestFarAboveMaxCert(t *testing.T) {
	m := api.Image{Depth: 1, Comps: []api.Comp{rooted(8, rounding(api.MaxCode-4, 0))}, Gates: make([]api.Gate, api.MaxGates)}
	checkRefused(t, "16 great gates", m, api.ErrCert)
	s := goneBack(m)
	checkNone(t, "16 great gates", m, s)
	checkNone(t, "16 great gates, cut to what may be", m, s[:api.MaxCert])
	// Each of them by itself may be.
	m.Gates = m.Gates[:4]
	if s, e := cert.Make(m); e != api.OK || len(s) < 800000 {
		t.Errorf("22.2: Make of four great gates: %d bytes, %d", len(s), e)
	}
}

// TestAllSaidIsTooLong: what Check's table says is too much to be a certificate, though the program has one.
func TestAllSaidIsTooLong(t *testing.T) {
	code := make([]api.Inst, api.MaxCode)
	for k := range code {
		code[k] = api.Inst{Op: api.JMP, Imm: (k + 1) % len(code)}
	}
	m := api.Image{Depth: 1, Comps: []api.Comp{rooted(8, code)}, Gates: make([]api.Gate, 8)}
	all := saying(checker.Check(m).Table)
	if len(all) <= api.MaxCert {
		t.Fatalf("it has %d bytes", len(all))
	}
	checkNone(t, "all is said", m, all)
	if s := made(t, m); len(s) > 8*600 {
		t.Errorf("22.2: Make: %d bytes", len(s))
	}
	m.Gates = m.Gates[:4]
	checkShows(t, "all is said of four gates", m, saying(checker.Check(m).Table))
}
