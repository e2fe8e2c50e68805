package thread_test

import (
	"fmt"
	"reflect"
	"slices"
	"strings"
	"sync"
	"testing"

	"paddock/api"
	"paddock/thread"
)

// scene is a program of three gates that uses all that it is given: arguments, inputs, memory, roots, depth and each row. What it finds in memory at 2000 and counts up there is 0 at first.
func scene(t testing.TB) api.Program {
	t.Helper()
	p := api.Program{
		Code: [][]api.FInst{
			bare(t, "fout a1;fout a2;fin a3;fout a3;flb a4 b8;fout a4;fcall i1;fout a1;fli a5 i1;fcall i1;fbne a1 b0 i11;fsw a1 b8 i8;fhalt a1"),
			bare(t, "ftrap i9;flw a2 b9;fout a2;faddi a2 b2 i1;fsw a2 b9;fadd a1 b1 c2;fcall i2;fret"),
			bare(t, "flb a1 b9 i2;fout a1;faddi a1 b1 i3;fsb a1 b9 i2;fret"),
		},
		Gates:  []api.FEntry{{Args: 2, Roots: [16]uint64{8: 16}}, {Entry: 1, Args: 1, Results: 1, Roots: [16]uint64{9: 2000}}, {Roots: [16]uint64{9: 30}}},
		Memory: varied()[:1500],
		Depth:  2,
	}
	return p
}

// scenes are what comes of runs of it: from each gate, with other arguments, inputs and fuel.
type scenes struct {
	gate         int
	args, inputs []uint64
	fuel         int
}

func runsOfScene() []scenes {
	return []scenes{
		{0, []uint64{31, 32}, []uint64{41}, 99}, {0, []uint64{31, 32}, nil, 99}, {0, []uint64{5, 6}, []uint64{7, 8}, 99}, {0, []uint64{5, 6}, []uint64{7, 8}, 14},
		{1, []uint64{8}, nil, 99}, {1, []uint64{9}, []uint64{1}, 5}, {2, nil, nil, 99}, {2, nil, nil, 0}, {0, []uint64{31, 32}, []uint64{41}, most},
	}
}

func (x scenes) run(t testing.TB, c *thread.Code) api.Result {
	t.Helper()
	return ran(t, c, x.gate, x.args, x.inputs, x.fuel)
}

// TestScene: what the scene does, reckoned by hand.
func TestScene(t *testing.T) {
	m := varied()
	b16, b32 := uint64(m[16]), uint64(m[32])
	want := api.Result{Outcome: halted(31+1+2, 12)}
	want.Out = []uint64{31, 32, 41, b16, 0, b32, 32, 1, b32 + 3}
	for range 2 {
		want.Touches = append(want.Touches, load(2000, 8), store(2000, 8), load(32, 1), store(32, 1))
	}
	want.Touches = append([]api.Touch{load(16, 1)}, append(want.Touches, store(24, 8))...)
	checkResult(t, "the scene", runsOfScene()[0].run(t, thread.Compile(scene(t))), want)
}

func spoilProgram(p api.Program) {
	for _, row := range whole(p.Code) {
		spoil(row, api.FInst{Op: 200, A: 99, B: -1, Imm: top})
	}
	spoil(p.Code, nil)
	spoil(p.Gates, api.FEntry{Entry: 99, Args: 99, Results: -1})
}

// TestWrittenOver: what was handed in is its caller's again, behind Compile and behind Run; and what becomes of it changes nothing.
func TestWrittenOver(t *testing.T) {
	for k, x := range runsOfScene() {
		want := machined(t, scene(t), x.gate, x.args, x.inputs, x.fuel)
		p := scene(t)
		c := thread.Compile(p)
		spoilProgram(p)
		p.Depth, p.Memory = 0, ""
		for range 2 {
			y := scenes{x.gate, slices.Clone(x.args), slices.Clone(x.inputs), x.fuel}
			got := y.run(t, c)
			spoil(y.args, 1000)
			spoil(y.inputs, 2000)
			checkResult(t, fmt.Sprintf("the run %d, of a program written over", k), got, want)
		}
		for gate, want := range []int{4, 3, 1} {
			if n := c.Blocks(gate); n != want {
				t.Errorf("23.3: of a program written over: Blocks(%d) is %d, want %d", gate, n, want)
			}
		}
	}
	// Into another one that may be, and into one that may not, and the other way round.
	p := plain(t, 1, "fli a1 i5;fhalt a1")
	before := thread.Compile(p)
	p.Code[0][0].Imm, p.Gates[0].Entry = 6, 1
	between := thread.Compile(p)
	p.Code[0][0].Op = 200
	behind := thread.Compile(p)
	p.Code[0][0].Op, p.Gates[0].Entry = api.FLI, 0
	checkResult(t, "ahead of a change", ran(t, before, 0, nil, nil, 9), result(halted(5, 1)))
	checkResult(t, "behind a change", ran(t, between, 0, nil, nil, 9), result(halted(0, 1)))
	checkEmpty(t, "behind a change to what may not be", behind, 0, nil, nil, 9, api.ErrEntry)
	checkOutcome(t, "changed back", p, nil, 9, halted(6, 1))
	if before.Blocks(0) != 1 || between.Blocks(0) != 2 || behind.Blocks(0) != 0 {
		t.Errorf("23.3: of programs that were changed: %d, %d, %d rows", before.Blocks(0), between.Blocks(0), behind.Blocks(0))
	}
}

// TestHandedInStays: nothing is written into what is handed in, nor into what stands behind it.
func TestHandedInStays(t *testing.T) {
	made := func(x scenes) (api.Program, scenes) {
		p := scene(t)
		for k, row := range p.Code {
			p.Code[k] = roomy(row, api.FInst{Op: 99})
		}
		p.Code, p.Gates = roomy(p.Code, nil), roomy(p.Gates, api.FEntry{Entry: 77})
		return p, scenes{x.gate, roomy(x.args, 7), roomy(x.inputs, 7), x.fuel}
	}
	for k, x := range runsOfScene() {
		p, y := made(x)
		want := machined(t, scene(t), x.gate, x.args, x.inputs, x.fuel)
		c := thread.Compile(p)
		for range 2 {
			checkResult(t, fmt.Sprintf("the run %d, with room behind its lists", k), y.run(t, c), want)
		}
		c.Blocks(0)
		c.Run(3, y.args, y.inputs, 9)
		c.Run(0, whole(y.args), y.inputs, 9)
		q, z := made(x)
		if !reflect.DeepEqual(whole(p.Code), whole(q.Code)) || !slices.Equal(whole(p.Gates), whole(q.Gates)) || p.Memory != q.Memory || p.Depth != q.Depth {
			t.Errorf("23.1: the run %d: the program was written into", k)
		}
		for gate, row := range p.Code {
			if !slices.Equal(whole(row), whole(q.Code[gate])) {
				t.Errorf("23.1: the run %d: a row was written into, or what stands behind it", k)
			}
		}
		if !slices.Equal(whole(y.args), whole(z.args)) || !slices.Equal(whole(y.inputs), whole(z.inputs)) {
			t.Errorf("23.2: the run %d: %v, %v were written into", k, whole(y.args), whole(y.inputs))
		}
	}
}

// TestResultsAreNew: what a run answered may be written over, its spare room too; the same run answers it again, and others answer theirs.
func TestResultsAreNew(t *testing.T) {
	c := thread.Compile(scene(t))
	var wants []api.Result
	for _, x := range runsOfScene() {
		wants = append(wants, machined(t, scene(t), x.gate, x.args, x.inputs, x.fuel))
	}
	var kept []api.Result
	for range 3 {
		for k, x := range runsOfScene() {
			r := x.run(t, c)
			checkResult(t, fmt.Sprintf("the run %d, where other results were written over", k), r, wants[k])
			kept = append(kept, x.run(t, c))
			spoil(r.Out, 999)
			spoil(r.Touches, api.Touch{Addr: 999})
		}
	}
	for k, r := range kept {
		checkResult(t, "a result, behind other runs", r, wants[k%len(wants)])
		spoil(r.Out, 999)
		spoil(r.Touches, api.Touch{Addr: 999})
	}
}

// TestMemoryIsOfEachRun: no run finds what another one stored, wherever that lies; each finds what the program says.
func TestMemoryIsOfEachRun(t *testing.T) {
	for _, size := range []int{0, 1, 16, 1023, 1024, 1025, 40_000, 65_535, 65_536} {
		memory := varied()[:size]
		p := plain(t, 0, "flw a2 b1;fout a2;fli a3 i-1;fsw a3 b1;flw a2 b1;fhalt a2")
		p.Gates[0].Args, p.Memory = 1, memory
		c := thread.Compile(p)
		long := memory + strings.Repeat("\x00", api.MaxMem-size)
		for range 2 {
			for _, at := range []int{0, 1, size - 9, size - 8, size - 1, size, 1016, 1020, 4096, 40_000, 65_528} {
				at = min(max(at, 0), 65_528)
				want := api.Result{Outcome: halted(top, 5), Out: []uint64{read(long, at, 8)}}
				want.Touches = []api.Touch{load(uint64(at), 8), store(uint64(at), 8), load(uint64(at), 8)}
				checkResult(t, fmt.Sprintf("memory of %d bytes, at %d", size, at), ran(t, c, 0, []uint64{uint64(at)}, nil, 9), want)
			}
		}
	}
}

// TestNoughtsInMemory: at its beginning, in its midst, at its end, and alone.
func TestNoughtsInMemory(t *testing.T) {
	nought := "\x00"
	for _, memory := range []string{nought, nought + nought, nought + "a", "a" + nought, "a" + nought + "b", nought + "a" + nought + "b" + nought, strings.Repeat(nought, 20) + "abc" + strings.Repeat(nought, 3000) + "d" + strings.Repeat(nought, 40), strings.Repeat(nought, api.MaxMem-1) + "z", strings.Repeat(nought, api.MaxMem)} {
		p := plain(t, 0, "flb a2 b1;fhalt a2")
		p.Gates[0].Args, p.Memory = 1, memory
		c := thread.Compile(p)
		long := memory + strings.Repeat(nought, api.MaxMem-len(memory))
		for _, at := range []int{0, 1, 2, 3, 4, 5, 19, 20, 21, 22, 23, 3022, 3023, 3024, 3025, 3063, 3064, api.MaxMem - 2, api.MaxMem - 1} {
			got := ran(t, c, 0, []uint64{uint64(at)}, nil, 9)
			checkResult(t, fmt.Sprintf("memory of %d bytes, at %d", len(memory), at), got, api.Result{Outcome: halted(uint64(long[at]), 1), Touches: []api.Touch{load(uint64(at), 1)}})
		}
	}
}

// TestByTurns: Codes of two programs, and two of one program, run by turns, from several gates.
func TestByTurns(t *testing.T) {
	other := scene(t)
	other.Memory, other.Depth = "\x05"+varied()[300:900], 1
	other.Code[2] = bare(t, "fout a9;fnop;fhalt a9")
	programs := []api.Program{scene(t), other, scene(t), plain(t, 1, "fnop")}
	var codes []*thread.Code
	for _, p := range programs {
		codes = append(codes, thread.Compile(p))
	}
	for turn := range 6 {
		for k, x := range runsOfScene() {
			for n, c := range codes[:3] {
				at := (k + turn*n) % len(runsOfScene())
				x = runsOfScene()[at]
				checkResult(t, fmt.Sprintf("program %d, run %d, by turns", n, at), x.run(t, c), machined(t, programs[n], x.gate, x.args, x.inputs, x.fuel))
			}
			checkResult(t, "the fourth program, by turns", ran(t, codes[3], 0, nil, nil, k), machined(t, programs[3], 0, nil, nil, k))
			checkEmpty(t, "by turns", codes[turn%3], 0, nil, nil, 9, api.ErrArgs)
			checkEmpty(t, "by turns", codes[turn%4], 3, nil, nil, 9, api.ErrEntry)
		}
	}
}

// TestAtOnce: one Code is run by many at the same time, and others are made meanwhile.
func TestAtOnce(t *testing.T) {
	c := thread.Compile(scene(t))
	var wants []api.Result
	for _, x := range runsOfScene() {
		wants = append(wants, machined(t, scene(t), x.gate, x.args, x.inputs, x.fuel))
	}
	p := scene(t)
	var all sync.WaitGroup
	for n := range 8 {
		all.Go(func() {
			for turn := range 30 {
				k := (n + turn) % len(wants)
				x := runsOfScene()[k]
				own := c
				if turn%5 == 0 {
					own = thread.Compile(p)
				}
				r, e := own.Run(x.gate, x.args, x.inputs, x.fuel)
				if e != api.OK || !same(r, wants[k]) || own.Blocks(0) != 4 {
					t.Errorf("23.2: the run %d, at once with others: %+v, %d", k, r, e)
				}
			}
		})
	}
	all.Wait()
}

// TestAnsweredAgain: programs of dice, made ready twice, and run again behind runs of others.
func TestAnsweredAgain(t *testing.T) {
	type answered struct {
		c      *thread.Code
		args   []uint64
		inputs []uint64
		r      api.Result
	}
	var l []answered
	for seed := range uint64(300) {
		d := rolled(300_000 + seed)
		p := d.program()
		a := answered{c: thread.Compile(p), args: d.numbers(p.Gates[0].Args), inputs: d.numbers(9)}
		a.r = ran(t, a.c, 0, a.args, a.inputs, 500)
		checkResult(t, "made ready again", ran(t, thread.Compile(p), 0, a.args, a.inputs, 500), a.r)
		l = append(l, a)
	}
	for _, a := range slices.Backward(l) {
		checkResult(t, "run again", ran(t, a.c, 0, a.args, a.inputs, 500), a.r)
	}
}
