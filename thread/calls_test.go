package thread_test

import (
	"fmt"
	"strings"
	"testing"

	"paddock/api"
	"paddock/thread"
)

// house is a program of two gates: the first calls the second, which begins at its instruction 1, and has so many arguments and results.
func house(t testing.TB, depth int, args int, results int, outer string, inner string) api.Program {
	t.Helper()
	p := api.Program{Code: [][]api.FInst{bare(t, outer), bare(t, inner)}, Memory: varied(), Depth: depth}
	p.Gates = []api.FEntry{{Roots: regs()}, {Entry: 1, Args: args, Results: results}}
	for k := range p.Gates[1].Roots {
		p.Gates[1].Roots[k] = 7000 + uint64(k)
	}
	return p
}

// TestCall: of the arguments r1, r2, .. stay; all else is what Roots say, r0 too.
func TestCall(t *testing.T) {
	for args := range 8 {
		p := house(t, 1, args, 0, "fnop;fcall a1 b2 c3 i1;ftrap", "ftrap;"+showing())
		want := api.Result{Outcome: api.Outcome{End: api.Trapped, Value: 77, Gate: 1, Pc: 17}}
		for k := range uint64(16) {
			n := 7000 + k
			if k >= 1 && k <= uint64(args) {
				n = 1000 + 100*k
			}
			want.Out = append(want.Out, n)
		}
		checkRun(t, fmt.Sprintf("FCALL with %d arguments", args), p, nil, 99, want)
		checkResult(t, "the same with the fuel that is just enough", ran(t, thread.Compile(p), 0, nil, nil, 19), want)
	}
}

const writingOver = "fli a0 i90;fli a1 i91;fli a2 i92;fli a3 i93;fli a4 i94;fli a5 i95;fli a6 i96;fli a7 i97;fli a8 i98;fli a9 i9;fli a14 i8;fli a15 i99;"

// TestRet: the results stay, as many as the gate says that was at hand; all else is as it was ahead of the FCALL.
func TestRet(t *testing.T) {
	for results := range 8 {
		p := house(t, 1, 3, results, "fcall i1;"+showing(), "ftrap;"+writingOver+"fret a1 b2 c3 i7")
		p.Gates[0].Results = 7 - results
		want := api.Result{Outcome: ended(api.Trapped, 77, 17)}
		for k := range uint64(16) {
			n := 1000 + 100*k
			if k >= 1 && k <= uint64(results) {
				n = 90 + k
			}
			want.Out = append(want.Out, n)
		}
		checkRun(t, fmt.Sprintf("FRET with %d results", results), p, nil, 99, want)
	}
}

// TestBeginning: arguments stand in the place of what Roots say of their registers; all others, r0 too, have what Roots say.
func TestBeginning(t *testing.T) {
	given := []uint64{top, 0, 31, 32, 1 << 63, 34, 35}
	p := api.Program{Depth: 1}
	for k := range 8 {
		p.Code = append(p.Code, bare(t, strings.Repeat("ftrap;", k)+showing()))
		p.Gates = append(p.Gates, api.FEntry{Entry: k, Args: k, Results: 7 - k, Roots: with(map[int]uint64{15: uint64(k)})})
	}
	c := thread.Compile(p)
	for k := range 8 {
		regs := p.Gates[k].Roots
		copy(regs[1:], given[:k])
		want := api.Result{Outcome: api.Outcome{End: api.Trapped, Value: 77, Gate: k, Pc: k + 16}, Out: regs[:]}
		checkResult(t, fmt.Sprintf("the beginning with %d arguments", k), ran(t, c, k, given[:k], nil, 99), want)
	}
}

// TestRetAtTheBottom: the results are of the gate at hand.
func TestRetAtTheBottom(t *testing.T) {
	for results := range 8 {
		p := alone(t, regs(), "fli a1 i-5;fret")
		p.Gates[0].Results = results
		want := halted(0, 1)
		if results > 0 {
			want.Value = top - 4
		}
		trail{fmt.Sprintf("FRET at the bottom with %d results", results), p, nil, nil, "0 1", result(want)}.check(t)
	}
	// The second gate by itself, and come back to the first one.
	p := house(t, 1, 0, 2, "fcall i1;fret", "fnop;fli a1 i8;fret")
	inner := api.Outcome{End: api.Halted, Value: 8, Gate: 1, Pc: 2}
	checkResult(t, "FRET of the second gate", ran(t, thread.Compile(p), 1, nil, nil, 9), result(inner))
	checkOutcome(t, "FRET of the first gate, behind a call", p, nil, 9, halted(0, 1))
	p.Gates[0].Results, p.Gates[1].Results, inner.Value = 1, 0, 0
	checkResult(t, "FRET of the second gate", ran(t, thread.Compile(p), 1, nil, nil, 9), result(inner))
	checkOutcome(t, "FRET of the first gate, behind a call", p, nil, 9, halted(1100, 1))
}

// TestDepth: calls in calls as many as Depth says, and no more.
func TestDepth(t *testing.T) {
	for depth := range api.MaxDepth + 1 {
		p := house(t, depth, 1, 0, "fcall i1;fcall i1;ftrap", "ftrap;faddi a1 b1 i1;fout a1;fcall i1;ftrap")
		at := "0"
		want := result(ended(api.Overflow, 0, 0))
		for k := range depth {
			at += " 1.1 1.2 1.3"
			want.Out = append(want.Out, 1101+uint64(k))
		}
		trail{fmt.Sprintf("FCALL with the depth %d", depth), p, nil, nil, at, want}.check(t)
	}
	// Down as deep as may be and up again: n calls in calls, of which each adds its own.
	p := plain(t, 9, "fbeq a1 b0 i6;fmov a2 b1;faddi a1 b1 i-1;fcall;fadd a1 b1 c2;fret;fret")
	p.Gates[0].Args, p.Gates[0].Results = 1, 1
	for n := range uint64(12) {
		want := halted(n*(n+1)/2, 5)
		switch {
		case n == 0:
			want.Pc = 6
		case n > 9:
			want = ended(api.Overflow, 0, 3)
		}
		checkResult(t, fmt.Sprintf("the sum up to %d", n), ran(t, thread.Compile(p), 0, []uint64{n}, nil, 1000), result(want))
	}
}

// TestCalls: each trail has calls; the fuel ends just ahead of them and of their returns, and just behind, too.
func TestCalls(t *testing.T) {
	for _, c := range []struct {
		name          string
		args, results int
		outer, inner  string
		at            string
		want          api.Result
	}{
		{"a call and its return", 1, 1, "fout a1;fcall i1;fout a1;fout a2;fhalt a1", "ftrap;faddi a1 b1 i1;fli a2 i5;fret",
			"0 1 1.1 1.2 1.3 2 3 4", result(halted(1101, 0), 1100, 1101, 1200)},
		{"a call at first", 0, 0, "fcall i1;fout a1;fhalt a2", "ftrap;fout a1;fret", "0 1.1 1.2 1 2", result(halted(1200, 0), 7001, 1100)},
		{"a return alone", 0, 1, "fcall i1;fhalt a1", "ftrap;fret", "0 1.1 1", result(halted(7001, 0))},
		{"a call as the last one", 0, 1, "fout a1;fcall i1", "ftrap;fout a1;fret", "0 1 1.1 1.2 2", result(faulted(api.FTarget, 0), 1100, 7001)},
		{"a call alone", 0, 1, "fcall i1", "ftrap;fret", "0 1.1 1", result(faulted(api.FTarget, 0))},
		{"calls one behind the other, where but one has room", 1, 1, "fcall i1;fcall i1;fcall i1;fhalt a1", "ftrap;faddi a1 b1 i1;fret",
			"0 1.1 1.2 1 1.1 1.2 2 1.1 1.2 3", result(halted(1103, 0))},
		{"no room", 2, 1, "fcall i1;ftrap", "ftrap;fout a2;fcall;fret", "0 1.1 1.2", result(ended(api.Overflow, 0, 0), 1200)},
		{"an end in a called gate", 0, 0, "fcall i1;ftrap", "ftrap;fnop;fhalt a3;fret", "0 1.1 1.2", result(halted(7003, 0))},
		{"a fault in a called gate", 0, 0, "fcall i1;ftrap", "ftrap;flb a1 b2 i65536;fret", "0 1.1", result(faulted(api.FBounds, 0))},
		{"a called gate's code runs on behind its end", 0, 0, "fcall i1;ftrap;ftrap;ftrap;ftrap", "ftrap;fnop", "0 1.1 1.2", result(faulted(api.FTarget, 0))},
		{"a call back to where a jump goes, too", 0, 1, "fbne a1 b2 i2;fcall i1;fout a1;fbeq a1 b15 i5;fjmp i1;fhalt a9", "ftrap;fli a1 i2500;fret",
			"0 2 3 4 1 1.1 1.2 2 3 5", result(halted(1900, 0), 1100, 2500)},
		{"a round in a called gate", 1, 1, "fli a1 i2;fcall i1;fhalt a1", "fbne a1 b0 i3;fout a1;fjmp;faddi a1 b1 i-1;fbne a1 b9 i3;fret",
			"0 1 1.1 1.2 1.0 1.3 1.4 1.3 1.4 1.5 2", result(halted(0, 0), 2)},
		{"jumps are of the own code", 0, 0, "fjmp i2;fhalt a1;fcall i1;fjmp i1", "fout a2;fjmp i3;fhalt a5;fret", "0 2 1.1 1.3 3 1", result(halted(1100, 0))},
	} {
		p := house(t, 1, c.args, c.results, c.outer, c.inner)
		if strings.HasPrefix(c.name, "a round") {
			p.Gates[1].Roots[0], p.Gates[1].Roots[9] = 7000, 0
		}
		trail{c.name, p, nil, nil, c.at, c.want}.check(t)
	}
}

// TestOneMemory: what a called gate stores, takes in and puts out its caller sees, and the other way round.
func TestOneMemory(t *testing.T) {
	p := house(t, 1, 0, 0, "fin a1;fsb a1 b0;fcall i1;flb a2 b0;fout a2;fin a3;fout a3;fhalt a1", "ftrap;flb a1 b3;fout a1;fin a4;fsb a4 b3;fret")
	p.Gates[1].Roots[3] = 1000
	want := api.Result{Outcome: halted(11, 0), Out: []uint64{11, 12, 13}, Touches: []api.Touch{store(1000, 1), load(1000, 1), store(1000, 1), load(1000, 1)}}
	trail{"one memory", p, nil, []uint64{11, 12, 13}, "0 1 2 1.1 1.2 1.3 1.4 1.5 3 4 5 6 7", want}.check(t)
}

// TestEntries: a gate's Entry is the first instruction, the last one, and one in the midst; runs begin there, and what is ahead of it can be jumped to.
func TestEntries(t *testing.T) {
	code := "fout a1;fout a2;fout a3;fhalt a4"
	for entry, c := range []struct {
		at   string
		want api.Result
	}{
		{"0 1 2 3", result(halted(1400, 0), 1100, 1200, 1300)},
		{"1 2 3", result(halted(1400, 0), 1200, 1300)},
		{"2 3", result(halted(1400, 0), 1300)},
		{"3", result(halted(1400, 0))},
	} {
		p := alone(t, regs(), code)
		p.Gates[0].Entry = entry
		trail{fmt.Sprintf("the Entry %d", entry), p, nil, nil, c.at, c.want}.check(t)
	}
	p := alone(t, regs(), "fout a1;fout a2;fbeq a0 b1 i2;fhalt;fout a5;fjmp")
	p.Gates[0].Entry = 5
	trail{"the last one goes to the first one", p, nil, nil, "5 0 1 2 3", result(halted(1000, 0), 1100, 1200)}.check(t)
	p.Gates[0].Entry = 4
	trail{"the Entry is jumped over", p, nil, nil, "4 5 0 1 2 3", result(halted(1000, 0), 1500, 1100, 1200)}.check(t)
}

// TestSameCode: gates of the same code begin each at its own Entry, be they called or not.
func TestSameCode(t *testing.T) {
	row := bare(t, "fout a1;fout a2;fout a3;fcall i3;fret")
	p := api.Program{Code: many(4, row), Gates: []api.FEntry{{}, {Entry: 1}, {Entry: 3}, {Entry: 4}}, Depth: 1}
	for k := range p.Gates {
		p.Gates[k].Roots = with(map[int]uint64{1: uint64(10 * k), 2: uint64(10*k + 1), 3: uint64(10*k + 2)})
	}
	c := thread.Compile(p)
	for gate, out := range [][]uint64{{0, 1, 2}, {11, 12}, nil, nil} {
		want := result(api.Outcome{End: api.Halted, Gate: gate, Pc: 4}, out...)
		checkResult(t, fmt.Sprintf("the gate %d of four", gate), ran(t, c, gate, nil, nil, 99), want)
		steps := []int{6, 5, 3, 1}[gate]
		checkResult(t, "just enough", ran(t, c, gate, nil, nil, steps), want)
		want.Outcome.End = api.Spent
		checkResult(t, "one less", ran(t, c, gate, nil, nil, steps-1), want)
		if n, want := c.Blocks(gate), []int{2, 3, 3, 2}[gate]; n != want {
			t.Errorf("23.3: the gate %d of four: %d rows, want %d", gate, n, want)
		}
	}
}
