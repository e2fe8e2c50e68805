package fastvm_test

import (
	"fmt"
	"math"
	"slices"
	"testing"

	"paddock/api"
)

// counter goes round for ever: two steps a round, which r1 counts.
func counter(t testing.TB) api.Program {
	t.Helper()
	return bareGate(t, 0, "faddi a1 b1 i1;fjmp")
}

func TestFuel(t *testing.T) {
	for fuel, steps := range map[int]uint64{
		math.MinInt: 0, -100001: 0, -1: 0, 0: 0, 1: 1, 2: 2, 3: 3, 1000: 1000,
		api.MaxFuel - 1: api.MaxFuel - 1, api.MaxFuel: api.MaxFuel, api.MaxFuel + 1: api.MaxFuel, 2*api.MaxFuel + 1: api.MaxFuel, 1 << 40: api.MaxFuel, math.MaxInt: api.MaxFuel,
	} {
		x := begin(t, counter(t), 0, nil, nil)
		want := api.Outcome{End: api.Spent, Pc: int(steps % 2)}
		checkOutcome(t, fmt.Sprintf("13.4: Run(%d)", fuel), x.Run(fuel), want)
		if n := x.Snap().Regs[1]; n != (steps+1)/2 || x.Snap().Pc != want.Pc {
			t.Errorf("13.4: Run(%d): %d rounds, want %d", fuel, n, (steps+1)/2)
		}
		checkOver(t, "Spent", x, want)
	}
}

// TestFuelThatIsJustEnough: the step with which a run ends needs fuel as well.
func TestFuelThatIsJustEnough(t *testing.T) {
	for _, c := range []struct {
		code string
		want api.Outcome
	}{
		{"fli a1 i5;fsb a1 b2;flb a3 b2;fhalt a3", api.Outcome{End: api.Halted, Value: 5, Pc: 3}},
		{"fnop;fnop;fret", api.Outcome{End: api.Halted, Pc: 2}},
		{"fout a1;ftrap i4", api.Outcome{End: api.Trapped, Value: 4, Pc: 1}},
		{"fin a1;fin a1", api.Outcome{End: api.Starved, Pc: 1}},
		{"fglt a1 c3", api.Outcome{End: api.Guarded, Value: 3}},
		{"fnop;fnop;flb a1 i65536", api.Outcome{End: api.Faulted, Fault: api.FBounds, Pc: 2}},
		{"fnop", api.Outcome{End: api.Faulted, Fault: api.FTarget, Pc: 1}},
		{"fcall", api.Outcome{End: api.Overflow}},
	} {
		enough := c.want.Pc + 1
		if c.want.End == api.Overflow {
			enough = 3
		}
		for fuel := range 8 {
			x := begin(t, alone(t, regs(), c.code), 0, nil, []uint64{77})
			want := c.want
			if fuel < enough {
				want = api.Outcome{End: api.Spent, Pc: min(fuel, c.want.Pc)}
			}
			what := fmt.Sprintf("13.4: %s with fuel %d", c.code, fuel)
			checkOutcome(t, what, x.Run(fuel), want)
			checkOver(t, what, x, want)
		}
	}
}

// TestRunBehindSteps: the fuel of Run is for what it does itself.
func TestRunBehindSteps(t *testing.T) {
	for ahead := range 6 {
		for fuel := range 6 {
			x := begin(t, counter(t), 0, nil, nil)
			for range ahead {
				x.Step()
			}
			checkOutcome(t, "13.4: Run behind steps", x.Run(fuel), api.Outcome{End: api.Spent, Pc: (ahead + fuel) % 2})
			if n := x.Snap().Regs[1]; n != uint64(ahead+fuel+1)/2 {
				t.Errorf("13.4: Run(%d) behind %d steps: %d rounds", fuel, ahead, n)
			}
		}
	}
}

// TestStepsAreNeverSpent: without Run there is no fuel.
func TestStepsAreNeverSpent(t *testing.T) {
	x := begin(t, counter(t), 0, nil, nil)
	for n := range api.MaxFuel + 10 {
		if o := x.Step(); o != (api.Outcome{Pc: (n + 1) % 2}) {
			t.Fatalf("13.4: step %d: %+v", n, o)
		}
	}
}

// TestSpentElsewhere: Spent tells the gate at hand, too.
func TestSpentElsewhere(t *testing.T) {
	p := house(t, 1, 0, 1, "fcall i1;fhalt a1", "fnop;fli a1 i4;fret")
	for fuel, want := range []api.Outcome{{End: api.Spent}, {End: api.Spent, Gate: 1, Pc: 1}, {End: api.Spent, Gate: 1, Pc: 2}, {End: api.Spent, Pc: 1}, {End: api.Halted, Value: 4, Pc: 1}} {
		x := begin(t, p, 0, nil, nil)
		checkOutcome(t, "13.4: Run", x.Run(fuel), want)
		checkOver(t, "behind Run", x, want)
	}
}

func TestSnap(t *testing.T) {
	x := begin(t, house(t, 2, 2, 0, "fcall i1;ftrap", "fnop;fcall i1;ftrap"), 0, nil, nil)
	want := api.FSnap{Regs: regs()}
	for depth := range 3 {
		if got := x.Snap(); got != want {
			t.Errorf("13.4: Snap: %+v, want %+v", got, want)
		}
		s := x.Snap()
		fill(s.Regs[:], 99)
		if got := x.Snap(); got != want {
			t.Errorf("13.4: a Snap was written over: %+v, want %+v", got, want)
		}
		x.Step()
		want = api.FSnap{Gate: 1, Pc: 1, Depth: depth + 1}
		for k := range want.Regs {
			want.Regs[k] = 7000 + uint64(k)
		}
		want.Regs[1], want.Regs[2] = 1100, 1200
	}
}

func TestOutAndTouches(t *testing.T) {
	x := begin(t, alone(t, regs(), "fsw a1 b8 i3;fout a1;flc a5 b9 i1;fsc a5 b9;fout a2;flb a4 b8;fsb a3 b8 i1;flw a4 b9;fout a1;fhalt"), 0, nil, nil)
	if len(x.Out()) != 0 || len(x.Touches()) != 0 {
		t.Errorf("13.4: at the beginning: %v, %v", x.Out(), x.Touches())
	}
	x.Run(50)
	if got, want := x.Out(), []uint64{1100, 1200, 1100}; !slices.Equal(got, want) {
		t.Errorf("13.4: Out: %v, want %v", got, want)
	}
	want := []api.Touch{{Store: true, Addr: 1803, Size: 8}, {Addr: 1901, Size: 16}, {Store: true, Addr: 1900, Size: 16}, {Addr: 1800, Size: 1}, {Store: true, Addr: 1801, Size: 1}, {Addr: 1900, Size: 8}}
	if got := x.Touches(); !slices.Equal(got, want) {
		t.Errorf("13.4: Touches: %+v, want %+v", got, want)
	}
}

// TestListsThatCameOut: they are their caller's, spare room too; the machine, and a copy of it, go on without them.
func TestListsThatCameOut(t *testing.T) {
	code := "fout a1;fsb a1 b8;faddi a1 b1 i1;fjmp"
	begins := [api.Regs]uint64{1: 1, 8: 4}
	x, y := begin(t, alone(t, begins, code), 0, nil, nil), begin(t, alone(t, begins, code), 0, nil, nil)
	odd := api.Touch{Store: true, Addr: 1000, Size: 1000}
	var outs [][]uint64
	var touches [][]api.Touch
	var memories []string
	for n := range 200 {
		c := x.Copy()
		fill(whole(x.Out()), 1000)
		fill(whole(x.Touches()), odd)
		fill(whole(append(x.Out(), 5, 6, 7)), 1000)
		fill(whole(append(x.Touches(), odd)), odd)
		fill(whole(c.Out()), 1000)
		fill(whole(c.Touches()), odd)
		if n%4 == 2 {
			outs, touches, memories = append(outs, x.Out()), append(touches, x.Touches()), append(memories, x.Memory())
		}
		checkLook(t, "13.7: lists of a copy written over by their owner", c, lookAt(y))
		x.Step()
		y.Step()
		checkLook(t, "13.4: lists written over by their owner", x, lookAt(y))
	}
	for n, l := range outs {
		if len(l) != n+1 || len(touches[n]) != n+1 || l[n] != uint64(n+1) || touches[n][n] != (api.Touch{Store: true, Addr: 4, Size: 1}) || memories[n][4] != byte(n+1) {
			t.Fatalf("13.4: a list of before has become %v, %v", l, touches[n])
		}
	}
}
