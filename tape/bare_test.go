package tape

import (
	"slices"
	"testing"

	"paddock/api"
	"paddock/fastvm"
)

// What no program that is taken does is asked here of programs of bare addresses that were made by hand.

// bare is such a program, of one gate, at whose beginning r8 is an address.
func bare(addr uint64, code ...api.FInst) api.Program {
	return api.Program{Code: [][]api.FInst{code}, Gates: []api.FEntry{{Roots: [api.Regs]uint64{1: 5, 8: addr}}}, Memory: "abcdefgh", Depth: 1}
}

func bareTape(t *testing.T, p api.Program, fuel int) *Tape {
	t.Helper()
	x, e := recorded(p, 0, nil, nil, fuel)
	if x == nil || e != api.OK {
		t.Fatalf("21.1: %v, %d, want a tape and OK", x != nil, e)
	}
	return x
}

func store(op api.FOp, imm uint64) api.FInst { return api.FInst{Op: op, A: 1, B: 8, Imm: imm} }

func checkStored(t *testing.T, what string, x *Tape, addr uint64, want ...int) {
	t.Helper()
	if got := x.Stores(addr); !slices.Equal(got, want) {
		t.Errorf("21.5: %s: Stores(%d) is %d, want %d", what, addr, got, want)
	}
}

// TestStoresThatFault: a step that would store and faults has stored nothing, and counts; the same store just within memory is one.
func TestStoresThatFault(t *testing.T) {
	for op, size := range map[api.FOp]uint64{api.FSB: 1, api.FSW: 8, api.FSC: 16} {
		last := api.MaxMem - size
		x := bareTape(t, bare(0, store(op, last), store(op, last+1), api.FInst{Op: api.FHALT}), 9)
		if want := (api.Outcome{End: api.Faulted, Fault: api.FBounds, Pc: 1}); x.Len() != 2 || x.Outcome() != want {
			t.Errorf("21.2: %d bytes beyond: %d, %+v", size, x.Len(), x.Outcome())
		}
		for addr := last - 1; addr < api.MaxMem+32; addr++ {
			var want []int
			if addr >= last && addr < api.MaxMem {
				want = []int{1}
			}
			checkStored(t, "beyond", x, addr, want...)
		}
		// Far beyond, and where it would go round; with the first step, which is the last one that the fuel lets, too.
		for _, addr := range []uint64{api.MaxMem, 1 << 32, ^uint64(0)} {
			for _, fuel := range []int{1, 9} {
				x = bareTape(t, bare(addr, store(op, 0), api.FInst{Op: api.FHALT}), fuel)
				if want := (api.Outcome{End: api.Faulted, Fault: api.FBounds}); x.Len() != 1 || x.Outcome() != want {
					t.Errorf("21.2: %d bytes at %d: %d, %+v", size, addr, x.Len(), x.Outcome())
				}
				for k := range uint64(16) {
					checkStored(t, "far beyond", x, addr+k)
				}
				if s, e := x.At(1); e != api.OK || s.Pc != 0 || s.Regs[8] != addr {
					t.Errorf("21.3: behind the fault: %+v, %d", s, e)
				}
				if x.Find(0, 0, 0, false) != 0 || x.Find(0, 0, 1, false) != none {
					t.Errorf("21.6: behind the fault: %d, %d", x.Find(0, 0, 0, false), x.Find(0, 0, 1, false))
				}
			}
		}
	}
}

// TestStoresThatOverlap: of 1, 8 and 16 bytes, in all orders.
func TestStoresThatOverlap(t *testing.T) {
	for _, order := range [][3]api.FOp{{api.FSB, api.FSW, api.FSC}, {api.FSC, api.FSW, api.FSB}, {api.FSW, api.FSC, api.FSB}, {api.FSW, api.FSB, api.FSC}} {
		at := map[api.FOp]uint64{api.FSB: 110, api.FSW: 105, api.FSC: 101}
		size := map[api.FOp]uint64{api.FSB: 1, api.FSW: 8, api.FSC: 16}
		p := bare(0, store(order[0], at[order[0]]), store(order[1], at[order[1]]), store(order[2], at[order[2]]), api.FInst{Op: api.FHALT})
		x := bareTape(t, p, 9)
		y, _ := fastvm.New(p, 0, nil, nil)
		for place := range 5 {
			memory := y.Memory()
			for addr := uint64(96); addr < 124; addr++ {
				if b, e := x.Byte(place, addr); b != memory[addr] || e != api.OK {
					t.Errorf("21.4: overlapping: Byte(%d, %d) is %d, %d, want %d", place, addr, b, e, memory[addr])
				}
			}
			y.Step()
		}
		for addr := uint64(96); addr < 124; addr++ {
			var want []int
			for k, op := range order {
				if addr >= at[op] && addr < at[op]+size[op] {
					want = append(want, k+1)
				}
			}
			checkStored(t, "overlapping", x, addr, want...)
		}
	}
}

// TestOverflowAtFirst: with no depth the first call has no room.
func TestOverflowAtFirst(t *testing.T) {
	p := bare(0, api.FInst{Op: api.FCALL}, api.FInst{Op: api.FHALT})
	p.Depth = 0
	for _, fuel := range []int{1, 9} {
		x := bareTape(t, p, fuel)
		if x.Len() != 1 || x.Outcome() != (api.Outcome{End: api.Overflow}) || x.Find(0, 0, 1, false) != none {
			t.Errorf("21.2: no room at first: %d, %+v", x.Len(), x.Outcome())
		}
	}
	if x := bareTape(t, p, 0); x.Len() != 0 || x.Outcome() != (api.Outcome{End: api.Spent}) || x.Find(0, 0, 0, false) != 0 {
		t.Errorf("21.2: no room at first, without fuel: %d, %+v", x.Len(), x.Outcome())
	}
}

// TestBehindTheCode: a step for which no instruction is there counts, too, and At tells what is at hand.
func TestBehindTheCode(t *testing.T) {
	p := bare(0, api.FInst{Op: api.FNop})
	x := bareTape(t, p, 9)
	if want := (api.Outcome{End: api.Faulted, Fault: api.FTarget, Pc: 1}); x.Len() != 2 || x.Outcome() != want {
		t.Errorf("21.2: behind the code: %d, %+v", x.Len(), x.Outcome())
	}
	if x.Find(0, 1, 0, false) != 1 || x.Find(0, 1, 9, true) != 1 {
		t.Errorf("21.6: behind the code: %d", x.Find(0, 1, 0, false))
	}
	if x = bareTape(t, p, 1); x.Len() != 1 || x.Outcome() != (api.Outcome{End: api.Spent, Pc: 1}) || x.Find(0, 1, 0, false) != 1 {
		t.Errorf("21.2: behind the code, with fuel 1: %d, %+v", x.Len(), x.Outcome())
	}
}

// TestKeptNowAndThen: few machines are kept, as many as the length asks for, and asking moves none of them.
func TestKeptNowAndThen(t *testing.T) {
	if keepEvery < 2 || keepEvery > api.MaxFuel/2 {
		t.Errorf("Ways: one is kept every %d steps", keepEvery)
	}
	loop := bare(0, api.FInst{Op: api.FADDI, A: 1, B: 1, Imm: 1}, api.FInst{Op: api.FSW, A: 1, B: 8}, api.FInst{Op: api.FJMP})
	for _, steps := range []int{0, 1, keepEvery - 1, keepEvery, keepEvery + 1, 3*keepEvery - 1, 3 * keepEvery, 3*keepEvery + 1} {
		x := bareTape(t, loop, steps)
		if len(x.kept) != steps/keepEvery+1 {
			t.Errorf("Ways: of %d steps %d machines are kept", steps, len(x.kept))
		}
		var before []api.FSnap
		for _, m := range x.kept {
			before = append(before, m.Snap())
		}
		for step := 0; step <= steps; step++ {
			// At each machine that is kept and beside it, and now and then between.
			if beside := (step + 1) % keepEvery; beside > 2 && step%97 != 0 {
				continue
			}
			s, e := x.At(step)
			x.Byte(step, 0)
			if want := 5 + uint64(step+2)/3; s.Regs[1] != want || s.Pc != step%3 || e != api.OK {
				t.Errorf("21.3: At(%d) of %d: %+v, %d, want %d in r1", step, steps, s, e, want)
			}
		}
		for k, m := range x.kept {
			if m.Snap() != before[k] || m.Snap().Pc != k*keepEvery%3 {
				t.Errorf("Ways: of %d steps: what was kept has moved: %+v, %+v", steps, before[k], m.Snap())
			}
		}
	}
}

// TestWrongBare: what a machine does not take has no tape.
func TestWrongBare(t *testing.T) {
	p := bare(0, api.FInst{Op: api.FRET})
	if x, e := recorded(p, 0, []uint64{1}, nil, 9); x != nil || e != api.ErrArgs {
		t.Errorf("21.1: %v, %d, want ErrArgs", x != nil, e)
	}
	if x, e := recorded(p, 1, nil, nil, 9); x != nil || e != api.ErrEntry {
		t.Errorf("21.1: %v, %d, want ErrEntry", x != nil, e)
	}
	// A tape keeps no input that no step can take.
	x, _ := recorded(bare(0, api.FInst{Op: api.FIN}, api.FInst{Op: api.FJMP}), 0, nil, make([]uint64, 1000), 3)
	y := x.kept[0].Copy()
	y.Run(1000)
	if n := y.Snap(); n.Pc != 0 || x.Len() != 3 || x.Outcome().End != api.Spent {
		t.Errorf("Ways: %+v, %d, %+v", n, x.Len(), x.Outcome())
	}
}
