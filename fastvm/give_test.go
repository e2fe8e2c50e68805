package fastvm_test

import (
	"fmt"
	"slices"
	"testing"

	"paddock/api"
	"paddock/fastvm"
)

// echo puts out what comes in, for ever.
func echo(t testing.TB) api.Program {
	t.Helper()
	return alone(t, regs(), "fin a1;fout a1;fjmp")
}

func checkOut(t testing.TB, what string, x *fastvm.Machine, want ...uint64) {
	t.Helper()
	if got := x.Out(); !slices.Equal(got, want) {
		t.Errorf("%s: put out %v, want %v", what, got, want)
	}
}

// TestGiveAheadOfTime: inputs come behind those that are left, in their order.
func TestGiveAheadOfTime(t *testing.T) {
	x := begin(t, echo(t), 0, nil, []uint64{1, 2})
	x.Give(3)
	x.Step()
	x.Give(4, 5, 6)
	x.Give()
	x.Step()
	x.Give(7)
	for range 100 {
		x.Step()
	}
	checkOut(t, "13.6: Give ahead of time", x, 1, 2, 3, 4, 5, 6, 7)
	checkOutcome(t, "13.6: all are taken", x.Step(), api.Outcome{End: api.Starved})
}

// TestGiveChangesNothingElse: but for whether the run is over.
func TestGiveChangesNothingElse(t *testing.T) {
	x := begin(t, echo(t), 0, nil, []uint64{1})
	for n := range 4 {
		before := lookAt(x)
		x.Give()
		x.Give(uint64(n), 9)
		checkLook(t, "13.6: behind Give", x, before)
		checkOutcome(t, "13.6: behind Give", x.Step(), api.Outcome{Pc: (n + 1) % 3})
	}
}

// TestGiveToStarved: the run stands at its FIN, which the next Step does.
func TestGiveToStarved(t *testing.T) {
	x := begin(t, echo(t), 0, nil, nil)
	starved := api.Outcome{End: api.Starved}
	for round := range uint64(5) {
		checkOutcome(t, "13.6: without an input", x.Run(50), starved)
		x.Give()
		checkOutcome(t, "13.6: behind Give without inputs, and without fuel", x.Run(0), starved)
		before := lookAt(x)
		x.Give()
		x.Give([]uint64{}...)
		checkOver(t, "Starved, behind Give without inputs", x, starved)
		x.Give(10 + round)
		checkLook(t, "13.6: Give to one that is Starved", x, before)
		checkOutcome(t, "13.6: the FIN is done", x.Step(), api.Outcome{Pc: 1})
		if n := x.Snap().Regs[1]; n != 10+round {
			t.Errorf("13.6: r1 is %d", n)
		}
	}
	x.Run(50)
	checkOut(t, "13.6: Give when Starved", x, 10, 11, 12, 13, 14)
}

// TestGiveSeveralToStarved: those that are not taken at once are left; and a Run goes on as a Step does.
func TestGiveSeveralToStarved(t *testing.T) {
	x := begin(t, echo(t), 0, nil, nil)
	x.Step()
	x.Give(1, 2)
	x.Give(3)
	checkOutcome(t, "13.6: Run behind Give", x.Run(50), api.Outcome{End: api.Starved})
	checkOut(t, "13.6: several when Starved", x, 1, 2, 3)
	x.Give(4)
	checkOutcome(t, "13.6: Run behind Give, with less fuel", x.Run(2), api.Outcome{End: api.Spent, Pc: 2})
	checkOut(t, "13.6: several when Starved", x, 1, 2, 3, 4)
	y := begin(t, echo(t), 0, nil, nil)
	y.Step()
	y.Give(1)
	checkOutcome(t, "13.6: it is over no more, and then without fuel", y.Run(0), api.Outcome{End: api.Spent})
}

// TestGiveElsewhere: Starved in a gate that was called.
func TestGiveElsewhere(t *testing.T) {
	x := begin(t, house(t, 1, 0, 1, "fcall i1;fhalt a1", "fnop;fin a1;fret"), 0, nil, nil)
	starved := api.Outcome{End: api.Starved, Gate: 1, Pc: 1}
	checkOutcome(t, "13.6: in a call", x.Run(9), starved)
	x.Give(6)
	checkOutcome(t, "13.6: in a call", x.Step(), api.Outcome{Gate: 1, Pc: 2})
	checkOutcome(t, "13.6: in a call", x.Run(9), api.Outcome{End: api.Halted, Value: 6, Pc: 1})
}

// TestGiveAtOtherEnds: inputs are kept there, and change nothing.
func TestGiveAtOtherEnds(t *testing.T) {
	for code, want := range map[string]api.Outcome{
		"fhalt a1;fin a1":   {End: api.Halted, Value: 1100},
		"fret;fin a1":       {End: api.Halted},
		"ftrap i7;fin a1":   {End: api.Trapped, Value: 7},
		"fguard c8;fin a1":  {End: api.Guarded, Value: 8},
		"flb a1 i65536":     {End: api.Faulted, Fault: api.FBounds},
		"fcall i1;fin a1":   {End: api.Overflow},
		"fglt a0 c2;fin a1": {End: api.Guarded, Value: 2},
	} {
		p := house(t, 0, 0, 0, code, "fnop;fnop")
		x := begin(t, p, 0, nil, []uint64{1})
		checkOutcome(t, "13.6: "+code, x.Run(9), want)
		before := lookAt(x)
		x.Give(5, 6)
		checkOver(t, "Give at another end: "+code, x, want)
		checkLook(t, "13.6: Give at another end: "+code, x, before)
	}
	x := begin(t, echo(t), 0, nil, nil)
	spent := x.Run(0)
	x.Give(5)
	checkOver(t, "Give when Spent", x, spent)
	x = begin(t, bareGate(t, 0, "fnop"), 0, nil, nil)
	over := x.Run(5)
	x.Give(5)
	checkOver(t, "Give behind the row", x, over)
}

// TestGivenIsTheCallers: a list that was handed to Give may be written over.
func TestGivenIsTheCallers(t *testing.T) {
	x := begin(t, echo(t), 0, nil, nil)
	for n := range uint64(40) {
		l := roomy([]uint64{n, n + 100}, 7)
		x.Give(l...)
		fill(whole(l), 1000)
		if n%3 == 0 {
			x.Step()
		}
	}
	for range 400 {
		x.Step()
	}
	var want []uint64
	for n := range uint64(40) {
		want = append(want, n, n+100)
	}
	checkOut(t, "13.6: a list that is written over", x, want...)
}

// TestGiveToOne: another machine of the same program, with the same list, has nothing of it.
func TestGiveToOne(t *testing.T) {
	inputs := roomy([]uint64{1}, 7)
	x, y := begin(t, echo(t), 0, nil, inputs), begin(t, echo(t), 0, nil, inputs)
	x.Give(2)
	y.Give(3, 4)
	checkOutcome(t, "13.6: of two machines", x.Run(99), api.Outcome{End: api.Starved})
	checkOutcome(t, "13.6: of two machines", y.Run(99), api.Outcome{End: api.Starved})
	checkOut(t, "13.6: of two machines", x, 1, 2)
	checkOut(t, "13.6: of two machines", y, 1, 3, 4)
}

// TestPieceByPiece: however inputs come, it is as if they were all there at first. (13.8)
func TestPieceByPiece(t *testing.T) {
	taken, late := 0, 0
	for seed := range uint64(1500) {
		d := rolled(seed)
		p, args := d.program()
		all := d.numbers(d.IntN(20))
		atFirst := min(d.IntN(3), len(all))
		x, y := begin(t, p, 0, args, all), begin(t, p, 0, args, all[:atFirst])
		left := all[atFirst:]
		give := func() {
			n := min(d.IntN(3), len(left))
			y.Give(left[:n]...)
			left = left[n:]
		}
		for step := range longest {
			if d.IntN(20) == 0 {
				give()
			}
			want := x.Step()
			got := y.Step()
			for got.End == api.Starved && len(left) > 0 {
				late++
				give()
				got = y.Step()
			}
			if got != want || x.Snap() != y.Snap() {
				t.Fatalf("13.8: program %d, step %d: %+v, %+v, want %+v, %+v", seed, step, got, y.Snap(), want, x.Snap())
			}
			if want.End != api.Running {
				break
			}
		}
		if checkLook(t, fmt.Sprintf("13.8: the end of the program %d", seed), y, lookAt(x)); t.Failed() {
			return
		}
		taken += len(all) - len(left)
	}
	if taken < 1000 || late < 300 {
		t.Errorf("13.8: %d inputs, %d times Starved: the programs are too narrow", taken, late)
	}
}
