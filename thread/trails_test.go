package thread_test

import (
	"fmt"
	"slices"
	"strconv"
	"strings"
	"testing"

	"paddock/api"
	"paddock/thread"
)

// trail is a run, told by which instructions are at hand in turn (with the gate ahead, where it is not the first one, as 1.3), and what comes of it. With the last of them it is over.
type trail struct {
	name   string
	p      api.Program
	args   []uint64
	inputs []uint64
	at     string
	want   api.Result // but for the place of its end
}

type place struct{ gate, pc int }

func (x trail) places(t testing.TB) []place {
	t.Helper()
	var l []place
	for _, word := range strings.Fields(x.at) {
		gate, pc, isTwo := strings.Cut(word, ".")
		if !isTwo {
			gate, pc = "0", gate
		}
		g, e := strconv.Atoi(gate)
		n, f := strconv.Atoi(pc)
		if e != nil || f != nil {
			t.Fatalf("there is no place %q", word)
		}
		l = append(l, place{g, n})
	}
	return l
}

// check runs it with each fuel up to more than enough: with k of it the run is Spent at the place behind k steps, until there is just enough.
func (x trail) check(t *testing.T) {
	t.Helper()
	l := x.places(t)
	c := thread.Compile(x.p)
	x.want.Outcome.Gate, x.want.Outcome.Pc = l[len(l)-1].gate, l[len(l)-1].pc
	for fuel, at := range l {
		got := ran(t, c, 0, x.args, x.inputs, fuel)
		if want := (api.Outcome{End: api.Spent, Gate: at.gate, Pc: at.pc}); got.Outcome != want {
			t.Errorf("23.2: %s, with fuel %d: %+v, want %+v", x.name, fuel, got.Outcome, want)
		}
		if !begins(x.want, got) {
			t.Errorf("23.4: %s, with fuel %d: %+v is no beginning of %+v", x.name, fuel, got, x.want)
		}
	}
	for _, fuel := range []int{len(l), len(l) + 1, len(l) + 2, 1000, api.MaxFuel - 1, api.MaxFuel, api.MaxFuel + 1, 1 << 40, most} {
		checkResult(t, fmt.Sprintf("%s, with fuel %d", x.name, fuel), ran(t, c, 0, x.args, x.inputs, fuel), x.want)
	}
	for _, fuel := range []int{-1, -7, -api.MaxFuel, -1 << 32, least} {
		checkResult(t, fmt.Sprintf("%s, with fuel %d", x.name, fuel), ran(t, c, 0, x.args, x.inputs, fuel), api.Result{Outcome: api.Outcome{End: api.Spent, Pc: l[0].pc}})
	}
}

// begins tells whether what one result puts out and touches is the beginning of what the other does.
func begins(all, piece api.Result) bool {
	return len(piece.Out) <= len(all.Out) && slices.Equal(piece.Out, all.Out[:len(piece.Out)]) &&
		len(piece.Touches) <= len(all.Touches) && slices.Equal(piece.Touches, all.Touches[:len(piece.Touches)])
}

func result(o api.Outcome, out ...uint64) api.Result { return api.Result{Outcome: o, Out: out} }

// TestEnds: each way in which a run is over, with its first instruction, behind others of a row, and with an instruction that is a row by itself.
func TestEnds(t *testing.T) {
	for _, c := range []struct {
		code string
		want api.Outcome
	}{
		{"fhalt a3", halted(1300, 0)}, {"fret", halted(0, 0)}, {"ftrap i9", ended(api.Trapped, 9, 0)},
		{"fguard c8", ended(api.Guarded, 8, 0)}, {"fglt a3 i1300 c7", ended(api.Guarded, 7, 0)}, {"fgge a3 i1301 c6", ended(api.Guarded, 6, 0)},
		{"fin a5", ended(api.Starved, 0, 0)}, {"fcall", ended(api.Overflow, 0, 0)},
		{"flb a5 i65536", faulted(api.FBounds, 0)}, {"flw a5 i65529", faulted(api.FBounds, 0)}, {"flc a5 i65521", faulted(api.FBounds, 0)},
		{"fsb a5 i65536", faulted(api.FBounds, 0)}, {"fsw a5 i65529", faulted(api.FBounds, 0)}, {"fsc a5 i65521", faulted(api.FBounds, 0)},
	} {
		for _, form := range []struct {
			code, at string
			out      []uint64
		}{
			{"%s", "0", nil},
			{"%s;fout a3;fhalt", "0", nil},
			{"%s;fout a3;fjmp i1", "0", nil},
			{"fout a3;%s;fout a4;fhalt", "0 1", []uint64{1300}},
			{"fout a3;fnop;%s", "0 1 2", []uint64{1300}},
			{"fjmp i2;fout a4;%s;fout a4;fhalt", "0 2", nil},
			{"fjmp i2;fjmp i4;fout a3;%s;fout a4;fhalt", "0 2 3", []uint64{1300}},
			{"fbeq a1 b2;fout a3;%s", "0 1 2", []uint64{1300}},
			{"fbne a1 b2 i2;fout a3;%s", "0 2", nil},
		} {
			p := alone(t, with(map[int]uint64{0: 0}), fmt.Sprintf(form.code, c.code))
			p.Depth = 0
			trail{fmt.Sprintf(form.code, c.code), p, nil, nil, form.at, result(c.want, form.out...)}.check(t)
		}
	}
}

// TestEndsKeep: with an end nothing has changed: no input is taken, nothing is touched. (What registers hold then nobody can see.)
func TestEndsKeep(t *testing.T) {
	p := alone(t, with(map[int]uint64{0: 0}), "fin a1;fout a1;fsw a1 b8;flb a2 b8;fout a2;fin a1;fin a1;fhalt a1")
	l := api.Result{Outcome: ended(api.Starved, 0, 0), Out: []uint64{0x1234, 0x34}, Touches: []api.Touch{store(1800, 8), load(1800, 1)}}
	trail{"Starved behind touches", p, nil, []uint64{0x1234, 6}, "0 1 2 3 4 5 6", l}.check(t)
	l.Outcome = halted(7, 0)
	trail{"Halted behind touches", p, nil, []uint64{0x1234, 6, 7, 8}, "0 1 2 3 4 5 6 7", l}.check(t)
	p = alone(t, with(map[int]uint64{0: 0}), "fsb a1 b8;flc a2 b8 i65520;fout a2")
	trail{"a load beyond memory", p, nil, nil, "0 1", api.Result{Outcome: faulted(api.FBounds, 0), Touches: []api.Touch{store(1800, 1)}}}.check(t)
}

// TestBehindTheCode: a run comes there Spent, or by one step more Faulted.
func TestBehindTheCode(t *testing.T) {
	target := result(faulted(api.FTarget, 0))
	for _, last := range []string{"fnop", "fli a1 i2", "fadd a1 b2 c3", "fbne a1 b1", "fin a1", "fglt a0 i-1", "fgge a0"} {
		p := alone(t, regs(), last)
		trail{"behind " + last, p, nil, []uint64{5}, "0 1", target}.check(t)
	}
	for _, last := range []string{"fnop", "fmov a1 b2", "fbne a1 b1", "fblt a1 b1 i1", "fbeq a1 b2 i2", "fin a1", "fglt a0 i-1"} {
		p := alone(t, regs(), "fjmp i2;ftrap;"+last)
		trail{"behind " + last, p, nil, []uint64{5}, "0 2 3", target}.check(t)
		p = alone(t, regs(), "fnop;fnop;"+last)
		trail{"behind " + last, p, nil, []uint64{5}, "0 1 2 3", target}.check(t)
	}
	p := alone(t, regs(), "fout a1;flb a3 b2;fsc a1 b2")
	want := api.Result{Outcome: faulted(api.FTarget, 0), Out: []uint64{1100}, Touches: []api.Touch{load(1200, 1), store(1200, 16)}}
	trail{"behind a store", p, nil, nil, "0 1 2 3", want}.check(t)
	// The longest code there is.
	p = alone(t, regs(), "fnop")
	p.Code[0] = many(400, api.FInst{Op: api.FOUT, A: 2})
	got := ran(t, thread.Compile(p), 0, nil, nil, 401)
	if got.Outcome != faulted(api.FTarget, 400) || !slices.Equal(got.Out, many(400, uint64(1200))) {
		t.Errorf("23.2: behind the longest code: %+v", got)
	}
	checkOutcome(t, "behind the longest code, without fuel", p, nil, 400, spent(400))
}

// TestJumps: each trail has a jump, or a branch; the fuel ends just ahead of it and just behind it, too.
func TestJumps(t *testing.T) {
	for _, c := range []struct {
		code, at string
		want     api.Result
	}{
		{"fjmp i3;fout a1;fhalt a1;fout a2;fjmp i1", "0 3 4 1 2", result(halted(1100, 0), 1200, 1100)},
		{"fjmp i1;fout a1;fhalt a1", "0 1 2", result(halted(1100, 0), 1100)},
		{"fout a1;fjmp i3;fout a2;fout a3;fhalt", "0 1 3 4", result(halted(0, 0), 1100, 1300)},
		// Taken, and not taken; back, ahead, and to the one behind.
		{"fbne a1 b2 i2;fout a1;fout a2;fhalt", "0 2 3", result(halted(0, 0), 1200)},
		{"fbeq a1 b2 i2;fout a1;fout a2;fhalt", "0 1 2 3", result(halted(0, 0), 1100, 1200)},
		{"fblt a1 b2 i1;fout a1;fout a2;fhalt", "0 1 2 3", result(halted(0, 0), 1100, 1200)},
		{"fbge a1 b2 i1;fout a1;fout a2;fhalt", "0 1 2 3", result(halted(0, 0), 1100, 1200)},
		{"fjmp i2;fhalt a3;fout a1;fbge a2 b1 i1", "0 2 3 1", result(halted(1300, 0), 1100)},
		{"fjmp i2;fhalt a3;fout a1;fbge a1 b2 i1;fhalt a4", "0 2 3 4", result(halted(1400, 0), 1100)},
		// Into the midst of its own row, three rounds.
		{"fli a1 i3;fout a1;faddi a1 b1 i-1;fnop;fbne a1 b0 i2;fhalt a2", "0 1 2 3 4 2 3 4 2 3 4 5", result(halted(1200, 0), 3)},
		// Into the midst of one behind, from another one.
		{"fjmp i3;fout a1;fout a2;fout a3;fout a4;fhalt", "0 3 4 5", result(halted(0, 0), 1300, 1400)},
		{"fout a1;fbeq a0 b0 i4;fout a2;fout a3;fout a4;fout a5;fhalt", "0 1 4 5 6", result(halted(0, 0), 1100, 1400, 1500)},
		// Into the midst of one ahead, from one behind it: the row is come to at its beginning first.
		{"fout a1;fout a2;fbne a0 b3 i4;fhalt a9;fmov a3 b0;fjmp i1", "0 1 2 4 5 1 2 3", result(halted(1900, 0), 1100, 1200, 1200)},
		{"fjmp i4;fout a1;fout a2;fhalt a3;fout a4;fjmp i2", "0 4 5 2 3", result(halted(1300, 0), 1400, 1200)},
		// A round of which the run comes out in the midst.
		{"fin a1;fbeq a1 b0 i4;fout a1;fjmp;fhalt a9", "0 1 2 3 0 1 2 3 0 1 4", result(halted(1900, 0), 7, 8)},
	} {
		p := alone(t, with(map[int]uint64{0: 0}), c.code)
		trail{c.code, p, nil, []uint64{7, 8, 0}, c.at, c.want}.check(t)
	}
}

// TestNamingItself: an instruction that goes to itself, as long as there is fuel.
func TestNamingItself(t *testing.T) {
	for _, own := range []string{"fjmp", "fbeq a1 b1", "fbne a1 b2", "fblt a1 b2", "fbge a1 b1"} {
		for _, form := range []struct {
			code string
			pc   int
		}{{"%s i0", 0}, {"%s i0;fout a1;fhalt", 0}, {"fout a1;%s i1;fhalt", 1}, {"fout a1;fnop;%s i2", 2}, {"fjmp i2;fhalt;%s i2", 2}} {
			p := alone(t, regs(), fmt.Sprintf(form.code, own))
			for fuel := range 12 {
				// The jump ahead leaves an instruction out.
				pc := min(fuel, form.pc)
				if strings.HasPrefix(form.code, "fjmp") && fuel > 0 {
					pc = 2
				}
				checkOutcome(t, fmt.Sprintf(form.code, own), p, nil, fuel, spent(pc))
			}
			checkOutcome(t, fmt.Sprintf(form.code, own), p, nil, most, spent(form.pc))
		}
	}
	for own, pc := range map[string]int{"fbeq a1 b2": 1, "fbne a1 b1": 1, "fblt a1 b1": 1, "fbge a1 b2": 1} {
		checkOutcome(t, own+", not taken", alone(t, regs(), own+";fhalt a1"), nil, 9, halted(1100, pc))
	}
}

// TestFuel: rounds for ever, with one, two, three and seven instructions each, of which one puts out.
func TestFuel(t *testing.T) {
	for code, size := range map[string]int{"fout a1;fjmp": 2, "fout a1;faddi a1 b1;fjmp": 3, "fout a1;fnop;fnop;fnop;fnop;fnop;fjmp": 7, "fout a1;fjmp i2;fbeq a0 b0": 3} {
		c := thread.Compile(alone(t, regs(), code))
		for _, fuel := range []int{least, -1 << 32, -api.MaxFuel, -2, -1, 0, 1, 2, 3, 4, 5, 6, 7, 8, 9, 700, 99_998, 99_999, 100_000, 100_001, 100_002, 200_001, 1 << 31, 1 << 32, 1<<32 + 1, 1 << 62, most} {
			steps := min(max(fuel, 0), 100_000)
			want := result(spent(steps%size), many((steps+size-1)/size, uint64(1100))...)
			got := ran(t, c, 0, nil, nil, fuel)
			if !same(got, want) {
				t.Errorf("23.2: %s with fuel %d: %+v, %d put out, want %+v, %d", code, fuel, got.Outcome, len(got.Out), want.Outcome, len(want.Out))
			}
		}
	}
	// Two touches in each round of three steps.
	c := thread.Compile(alone(t, regs(), "fsb a1 b2;flb a1 b2;fjmp"))
	if got := ran(t, c, 0, nil, nil, most); len(got.Touches) != 66_667 || got.Outcome != spent(1) || got.Touches[66_666] != store(1200, 1) {
		t.Errorf("23.2: touched %d times, %+v", len(got.Touches), got.Outcome)
	}
	// An end that comes with just the last step that there can be, and one that would come a step later.
	for entry, want := range []api.Outcome{spent(4), halted(1300, 4)} {
		p := alone(t, with(map[int]uint64{0: 0, 1: 49_999}), "fnop;fnop;faddi a1 b1 i-1;fbne a1 b0 i2;fhalt a3")
		p.Gates[0].Entry = entry
		checkOutcome(t, "a step ahead of the last one", p, nil, api.MaxFuel-1, spent(3+entry))
		for _, fuel := range []int{api.MaxFuel, api.MaxFuel + 1, 1 << 40, most} {
			checkOutcome(t, "an end about the last step", p, nil, fuel, want)
		}
	}
}
