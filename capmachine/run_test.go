package capmachine_test

import (
	"math"
	"testing"

	"paddock/api"
)

// counter goes round for ever: two steps a round, which r1 counts.
func counter(t *testing.T) api.Image {
	t.Helper()
	return parsed(t, "depth 1\ncomp\naddi r1 r1 1\njmp 0\ngate main 0 0 ->\n")
}

func TestFuel(t *testing.T) {
	for fuel, steps := range map[int]uint64{
		math.MinInt: 0, -100001: 0, -1: 0, 0: 0, 1: 1, 2: 2, 3: 3, 1000: 1000,
		api.MaxFuel - 1: api.MaxFuel - 1, api.MaxFuel: api.MaxFuel, api.MaxFuel + 1: api.MaxFuel, 2*api.MaxFuel + 1: api.MaxFuel, 1 << 40: api.MaxFuel, math.MaxInt: api.MaxFuel,
	} {
		x := begin(t, counter(t), 0, nil, nil)
		want := api.Outcome{End: api.Spent, Pc: int(steps % 2)}
		checkOutcome(t, "7.4: Run", x.Run(fuel), want)
		if n := x.Snap().Regs[1].N; n != (steps+1)/2 || x.Snap().Pc != want.Pc {
			t.Errorf("7.4: Run(%d): %d rounds, want %d", fuel, n, (steps+1)/2)
		}
		checkOver(t, "Spent", x, want)
	}
}

// TestFuelThatIsJustEnough: the step with which a run ends needs fuel as well.
func TestFuelThatIsJustEnough(t *testing.T) {
	for _, c := range []struct {
		code []string
		want api.Outcome
	}{
		{[]string{"li r1 5", "sb r1 r8 3", "lb r2 r8 3", "halt r2"}, api.Outcome{End: api.Halted, Value: 5, Pc: 3}},
		{[]string{"li r1 5", "out r1", "trap 4"}, api.Outcome{End: api.Trapped, Value: 4, Pc: 2}},
		{[]string{"in r1", "in r1"}, api.Outcome{End: api.Starved, Pc: 1}},
		{[]string{"glt r1 0 3"}, api.Outcome{End: api.Guarded, Value: 3}},
		{[]string{"out r1", "out r8"}, api.Outcome{End: api.Faulted, Fault: api.FInt, Pc: 1}},
		{[]string{"out r1"}, api.Outcome{End: api.Faulted, Fault: api.FTarget, Pc: 1}},
		{[]string{"call main"}, api.Outcome{End: api.Overflow}},
	} {
		enough := c.want.Pc + 1
		if c.want.End == api.Overflow {
			enough = 3
		}
		for fuel := range 10 {
			x := begin(t, inYard(t, c.code...), 0, []uint64{0, 0, 0}, []uint64{77})
			want := c.want
			if fuel < enough {
				want = api.Outcome{End: api.Spent, Pc: min(fuel, c.want.Pc)}
			}
			checkOutcome(t, "7.4: Run", x.Run(fuel), want)
			checkOver(t, "behind Run", x, want)
		}
	}
}

// TestRunBehindSteps: the fuel of Run is for what it does itself.
func TestRunBehindSteps(t *testing.T) {
	for ahead := range 6 {
		for fuel := range 6 {
			x := begin(t, counter(t), 0, nil, nil)
			for range ahead {
				x.Step()
			}
			checkOutcome(t, "7.4: Run behind steps", x.Run(fuel), api.Outcome{End: api.Spent, Pc: (ahead + fuel) % 2})
			if n := x.Snap().Regs[1].N; n != uint64(ahead+fuel+1)/2 {
				t.Errorf("7.4: Run(%d) behind %d steps: %d rounds", fuel, ahead, n)
			}
		}
	}
}

// TestStepsAreNeverSpent: without Run there is no fuel.
func TestStepsAreNeverSpent(t *testing.T) {
	x := begin(t, counter(t), 0, nil, nil)
	for n := range api.MaxFuel + 10 {
		if o := x.Step(); o != (api.Outcome{Pc: (n + 1) % 2}) {
			t.Fatalf("7.4: step %d: %+v", n, o)
		}
	}
}

// TestSpentElsewhere: Spent tells the gate at hand, too.
func TestSpentElsewhere(t *testing.T) {
	m := parsed(t, "depth 1\ncomp\ncall leaf\nhalt r1\ncomp\nli r1 4\nret\ngate main 0 0 ->\ngate leaf 1 0 -> int\n")
	for fuel, want := range []api.Outcome{{End: api.Spent}, {End: api.Spent, Gate: 1}, {End: api.Spent, Gate: 1, Pc: 1}, {End: api.Spent, Pc: 1}, {End: api.Halted, Value: 4, Pc: 1}} {
		x := begin(t, m, 0, nil, nil)
		checkOutcome(t, "7.4: Run", x.Run(fuel), want)
		checkOver(t, "behind Run", x, want)
	}
}
