package trim_test

import (
	"fmt"
	"slices"
	"testing"

	"paddock/api"
	"paddock/capmachine"
	"paddock/checker"
	"paddock/erase"
	"paddock/fastvm"
)

// machine is what both machines can do.
type machine interface {
	Step() api.Outcome
	Run(fuel int) api.Outcome
	Out() []uint64
	Touches() []api.Touch
}

// begin is how a run begins: with which arguments and inputs, at which gate.
type begin struct {
	gate         int
	args, inputs []uint64
}

func first(t testing.TB, m api.Image, b begin) *capmachine.Machine {
	t.Helper()
	x, e := capmachine.New(m, b.gate, b.args, b.inputs)
	if e != api.OK {
		t.Fatalf("a run may not begin: %d\n%s", e, shown(m))
	}
	return x
}

// onFirst and onSecond make machines of a program that begin alike.
func onFirst(t testing.TB, m api.Image, b begin) func() machine {
	return func() machine { return first(t, m, b) }
}

func onSecond(t testing.TB, m api.Image, b begin) func() machine {
	t.Helper()
	p, ok := erase.Program(m, checker.Check(m))
	if !ok {
		t.Fatalf("there is no Program of\n%s", shown(m))
	}
	return func() machine {
		x, e := fastvm.New(p, b.gate, b.args, b.inputs)
		if e != api.OK {
			t.Fatalf("a run may not begin: %d\n%s", e, shown(m))
		}
		return x
	}
}

// result is what is the same of a run behind Pack: all but the number of the instruction.
type result struct {
	end     api.End
	value   uint64
	fault   api.Fault
	gate    int
	out     []uint64
	touches []api.Touch
}

func resultOf(o api.Outcome, x machine) result {
	return result{o.End, o.Value, o.Fault, o.Gate, x.Out(), x.Touches()}
}

// ended runs a machine to its end, and tells in how many steps it came there; -1, if it did not within so many.
func ended(x machine, most int) (result, int) {
	for n := range most {
		if o := x.Step(); o.End != api.Running {
			return resultOf(o, x), n + 1
		}
	}
	return result{}, -1
}

// withFuel is what a run comes to with so much fuel.
func withFuel(x machine, fuel int) result { return resultOf(x.Run(fuel), x) }

func sameResult(a, b result) bool { return fmt.Sprintf("%v", a) == fmt.Sprintf("%v", b) }

// checkLike looks whether runs of one program (now) are like those of another one (was): ended within as many steps, and alike. It tells the end, and how many steps less it took.
func checkLike(t testing.TB, what string, was, now func() machine, most int) (api.End, int) {
	t.Helper()
	want, steps := ended(was(), most)
	if steps < 0 {
		checkAsFar(t, what, was(), now(), most)
		return api.Spent, 0
	}
	if got := withFuel(now(), steps); !sameResult(got, want) {
		t.Fatalf("%s: with fuel %d: %+v, want %+v", what, steps, got, want)
	}
	if got := withFuel(was(), steps-1); got.end != api.Spent {
		t.Fatalf("%s: with fuel %d it is not Spent: %+v", what, steps-1, got)
	}
	_, less := ended(now(), steps)
	if got := withFuel(now(), less); !sameResult(got, want) {
		t.Fatalf("%s: with fuel %d, just enough: %+v, want %+v", what, less, got, want)
	}
	if got := withFuel(now(), less-1); got.end != api.Spent {
		t.Fatalf("%s: with fuel %d, one less than enough: %+v, want Spent", what, less-1, got)
	}
	return want.end, steps - less
}

// checkAsFar looks, of a run that has not ended, whether now has come at least as far.
func checkAsFar(t testing.TB, what string, was, now machine, steps int) {
	t.Helper()
	w, n := withFuel(was, steps), withFuel(now, steps)
	if len(n.out) < len(w.out) || !slices.Equal(n.out[:len(w.out)], w.out) || len(n.touches) < len(w.touches) || !slices.Equal(n.touches[:len(w.touches)], w.touches) {
		t.Fatalf("%s: behind %d steps: put out and touched %v, %v, want at least %v, %v", what, steps, n.out, n.touches, w.out, w.touches)
	}
}

// begins are runs from each gate that can be an entry.
func (d dice) begins(m api.Image) []begin {
	var l []begin
	for gate, g := range m.Gates {
		if isEntry(g) {
			l = append(l, begin{gate, d.numbers(len(g.Args)), d.numbers(d.IntN(30))})
		}
	}
	return l
}
