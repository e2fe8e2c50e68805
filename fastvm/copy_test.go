package fastvm_test

import (
	"fmt"
	"slices"
	"testing"

	"paddock/api"
	"paddock/fastvm"
)

// stage is a program in which all that a machine has comes about: round by round it takes two numbers in, multiplies them by calls in calls, puts out and touches. With the first of them above 2 the stack is too small.
func stage(t testing.TB) api.Program {
	t.Helper()
	outer := "fin a1;fin a2;fcall i1;fout a1;fsw a1 b8;faddi a8 b8 i5;flb a3 b8 i-4;fout a3;fjmp"
	p := house(t, 3, 2, 1, outer, "ftrap;fsc a1 b9;fbeq a1 b15 i6;faddi a1 b1 i-1;fcall i1;fadd a1 b1 c2;fret")
	p.Gates[1].Roots[9], p.Gates[1].Roots[15] = 4000, 0
	return p
}

func TestStage(t *testing.T) {
	x := begin(t, stage(t), 0, nil, []uint64{2, 10, 0, 5, 1, 30000, 3, 4})
	checkOutcome(t, "13.3: calls in calls", x.Run(500), api.Outcome{End: api.Overflow, Gate: 1, Pc: 4})
	checkOut(t, "13.3: calls in calls", x, 20, 0, 0, 0, 30000, 117)
	if n := len(x.Touches()); n != 15 {
		t.Errorf("13.3: calls in calls: touched %+v", x.Touches())
	}
}

// TestCopyAtEachStep: both go on, each by itself, in any order, as one that was never copied.
func TestCopyAtEachStep(t *testing.T) {
	inputs := []uint64{2, 10, 1, 60, 0, 7, 2}
	for at := range 70 {
		fresh := func() *fastvm.Machine {
			x := begin(t, stage(t), 0, nil, inputs)
			for range at {
				x.Step()
			}
			return x
		}
		x, z := fresh(), fresh()
		before := lookAt(x)
		y := x.Copy()
		checkLook(t, fmt.Sprintf("13.7: a copy behind %d steps", at), y, before)
		// The first goes to its end; the copy still stands where it stood.
		checkOutcome(t, "13.7: the machine goes on", x.Run(500), z.Run(500))
		checkLook(t, "13.7: the machine goes on", x, lookAt(z))
		checkLook(t, "13.7: the copy stands", y, before)
		c := y.Copy()
		for _, one := range []*fastvm.Machine{y, c} {
			checkOutcome(t, "13.7: the copy goes on", one.Run(500), z.Run(500))
			checkLook(t, "13.7: the copy goes on", one, lookAt(z))
		}
	}
}

// TestCopyGoesAhead: the copy to its end first, and the machine by steps behind it.
func TestCopyGoesAhead(t *testing.T) {
	for at := range 60 {
		inputs := []uint64{1, 4, 2, 6, 3, 1}
		x, z := begin(t, stage(t), 0, nil, inputs), begin(t, stage(t), 0, nil, inputs)
		for range at {
			x.Step()
			z.Step()
		}
		y := x.Copy()
		y.Give(0, 9, 1, 11)
		y.Run(500)
		x.Copy().Run(0)
		for range 100 {
			checkOutcome(t, "13.7: behind its copy", x.Step(), z.Step())
		}
		checkLook(t, "13.7: behind its copy", x, lookAt(z))
	}
}

// TestCopyOfWhatIsOver: at each end, Starved and Spent among them.
func TestCopyOfWhatIsOver(t *testing.T) {
	for _, code := range []string{"fhalt a1", "fret", "ftrap i9", "fguard c7", "fin a1", "fnop", "fcall", "flw a1 i65530", "fjmp"} {
		x := begin(t, alone(t, regs(), "fout a2;fsb a1 b1;fjmp i3;"+code), 0, nil, nil)
		if code == "fjmp" {
			x = begin(t, counter(t), 0, nil, nil)
		}
		want := x.Run(20)
		y := x.Copy()
		checkLook(t, "13.7: a copy of what is over, "+code, y, lookAt(x))
		checkOver(t, "a copy of what is over, "+code, y, want)
		y.Give(5)
		if want.End == api.Starved {
			checkOutcome(t, "13.7: a copy of what is Starved goes on", y.Step(), api.Outcome{Pc: 4})
		} else {
			checkOver(t, "a copy of what is over, behind Give, "+code, y, want)
		}
		checkOver(t, "what is over, behind Give to its copy, "+code, x, want)
	}
}

// TestCopyOfInputs: those that are left, and none of those that are given to the other one.
func TestCopyOfInputs(t *testing.T) {
	x := begin(t, echo(t), 0, nil, roomy([]uint64{1, 2, 3}, 7))
	x.Step()
	y := x.Copy()
	z := y.Copy()
	x.Give(10)
	y.Give(20, 21)
	for range 50 {
		z.Step()
		y.Step()
		x.Step()
	}
	checkOut(t, "13.7: inputs of the machine", x, 1, 2, 3, 10)
	checkOut(t, "13.7: inputs of the copy", y, 1, 2, 3, 20, 21)
	checkOut(t, "13.7: inputs of the copy's copy", z, 1, 2, 3)
	z.Give(30)
	z.Run(50)
	checkOut(t, "13.7: inputs of the copy's copy", z, 1, 2, 3, 30)
}

// TestCopyOfLists: with whatever spare room behind them, what one of the two takes in, puts out or touches is not the other one's.
func TestCopyOfLists(t *testing.T) {
	for rounds := range uint64(20) {
		x := begin(t, bareGate(t, 0, "fin a1;fout a1;fsb a1 b1;fjmp"), 0, nil, nil)
		var out []uint64
		for n := range rounds {
			x.Give(n)
			out = append(out, n)
		}
		for range 4 * rounds {
			x.Step()
		}
		// Of those that are left there are several, too.
		left := []uint64{31, 32, 33}
		for _, n := range left {
			x.Give(n)
		}
		out = append(out, left...)
		y := x.Copy()
		for n := range uint64(5) {
			x.Give(100 + n)
			y.Give(200 + n)
		}
		for range 40 {
			x.Step()
			y.Step()
		}
		for one, from := range map[*fastvm.Machine]uint64{x: 100, y: 200} {
			want := append(slices.Clone(out), from, from+1, from+2, from+3, from+4)
			checkOut(t, fmt.Sprintf("13.7: behind %d rounds", rounds), one, want...)
			touches := one.Touches()
			for k, n := range want {
				if k >= len(touches) || touches[k] != (api.Touch{Store: true, Addr: n, Size: 1}) {
					t.Fatalf("13.7: behind %d rounds: touched %+v", rounds, touches)
				}
			}
		}
	}
}

// TestCopyOfTheStack: what one puts on its stack is not on the other one's, though both have the same at first.
func TestCopyOfTheStack(t *testing.T) {
	p := bareGate(t, 6, "fin a1;fbeq a1 b0 i4;fcall;fout a1;fret")
	p.Gates[0].Results = 1
	x := begin(t, p, 0, nil, []uint64{1, 2, 3})
	for range 6 {
		x.Step()
	}
	y := x.Copy()
	if x.Snap().Depth != 2 || y.Snap().Depth != 2 {
		t.Fatalf("13.7: depths: %d, %d", x.Snap().Depth, y.Snap().Depth)
	}
	x.Give(4, 0)
	y.Give(0)
	checkOutcome(t, "13.7: the stack of the machine", x.Run(99), api.Outcome{End: api.Halted, Pc: 4})
	checkOutcome(t, "13.7: the stack of the copy", y.Run(99), api.Outcome{End: api.Halted, Pc: 4})
	checkOut(t, "13.7: the stack of the machine", x, 0, 0, 0, 0)
	checkOut(t, "13.7: the stack of the copy", y, 0, 0, 0)
}

// TestCopyOfMemory: each byte that one of them stores is its own, in pages that were stored into and in such that were not.
func TestCopyOfMemory(t *testing.T) {
	p := bareGate(t, 0, "fin a1;fin a2;fsw a1 b2;fjmp")
	x := begin(t, p, 0, nil, []uint64{5, 100})
	x.Run(2)
	x = begin(t, p, 0, nil, []uint64{5, 100})
	for range 4 {
		x.Step()
	}
	y := x.Copy()
	was := x.Memory()
	x.Give(6, 100, 7, 30000)
	y.Give(8, 101, 9, 60000)
	x.Run(50)
	y.Run(50)
	if x.Memory() != stored(stored(was, 100, 8, 6), 30000, 8, 7) || y.Memory() != stored(stored(was, 101, 8, 8), 60000, 8, 9) {
		t.Errorf("13.7: memory is not each one's own")
	}
}

// TestCopiesOfDice: a copy goes on as its machine would, whatever becomes of that. (13.8)
func TestCopiesOfDice(t *testing.T) {
	for seed := range uint64(1000) {
		d := rolled(seed)
		p, args := d.program()
		inputs := d.numbers(d.IntN(12))
		x, z := begin(t, p, 0, args, inputs), begin(t, p, 0, args, inputs)
		for range d.IntN(40) {
			x.Step()
			z.Step()
		}
		y := x.Copy()
		for range d.IntN(40) {
			x.Give(d.number())
			x.Step()
		}
		for n := range longest {
			got, want := y.Step(), z.Step()
			if got != want || y.Snap() != z.Snap() {
				t.Fatalf("13.8: program %d, step %d: %+v, want %+v", seed, n, got, want)
			}
			if n%7 == 0 {
				y = y.Copy()
			}
		}
		if checkLook(t, fmt.Sprintf("13.8: a copy of the program %d", seed), y, lookAt(z)); t.Failed() {
			return
		}
	}
}

// TestCopiesShareNothing: many of one machine, by turns, each with other inputs.
func TestCopiesShareNothing(t *testing.T) {
	x := begin(t, stage(t), 0, nil, []uint64{1})
	for range 2 {
		x.Step()
	}
	checkOutcome(t, "13.7: what is copied", x.Step(), api.Outcome{End: api.Starved, Pc: 1})
	var copies, twins []*fastvm.Machine
	for k := range uint64(12) {
		c, z := x.Copy(), begin(t, stage(t), 0, nil, []uint64{1})
		more := []uint64{k, 2, 9, k % 2, k, k % 3, 9}
		c.Give(more...)
		z.Give(slices.Clone(more)...)
		copies, twins = append(copies, c), append(twins, z)
	}
	for range 150 {
		for _, c := range copies {
			c.Step()
		}
	}
	for k, z := range twins {
		for range 152 {
			z.Step()
		}
		checkOutcome(t, "13.7: copies by turns", copies[k].Step(), z.Step())
		checkLook(t, "13.7: copies by turns", copies[k], lookAt(z))
	}
	checkOutcome(t, "13.7: what was copied", x.Step(), api.Outcome{End: api.Starved, Pc: 1})
}
