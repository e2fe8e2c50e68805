package tape_test

import (
	"testing"

	"paddock/api"
	"paddock/tape"
)

// ending is a run that ends by itself, with a step.
type ending struct {
	what, text string
	args       []uint64
	inputs     []uint64
	steps      int
	want       api.Outcome
}

// endings are of each outcome, with the first step and with a later one. (The first call always has room.)
func endings() []ending {
	const (
		gate = ";gate g 0 0 int ->"
		comp = "depth 1;" + ground + "comp;" + roots
	)
	return []ending{
		{"halted at first", comp + "halt r1" + gate, []uint64{top}, nil, 1, halted(top, 0)},
		{"halted later", comp + "li r2 7;out r2;halt r2" + gate, []uint64{1}, nil, 3, halted(7, 2)},
		{"back at first", comp + "ret" + gate, []uint64{9}, nil, 1, halted(0, 0)},
		{"back later", comp + "li r1 7;ret" + gate, []uint64{9}, nil, 2, halted(0, 1)},
		{"back with a result", comp + "ret;gate g 0 0 int -> int", []uint64{9}, nil, 1, halted(9, 0)},
		{"back with a capability", comp + "mov r1 r11;ret;gate g 0 0 int -> cap 0 64 40 40 r 0", []uint64{9}, nil, 2, halted(40, 1)},
		{"guarded at first", comp + "glt r1 9 255;halt r1" + gate, []uint64{9}, nil, 1, ended(api.Guarded, 255, 0)},
		{"guarded at first, as was known", comp + "gtag r2 0;halt r1" + gate, []uint64{9}, nil, 1, ended(api.Guarded, 0, 0)},
		{"guarded later", comp + "addi r1 r1 1;glt r1 12 3;jmp 0" + gate, []uint64{9}, nil, 8, ended(api.Guarded, 3, 1)},
		{"trapped at first", comp + "trap 77" + gate, []uint64{9}, nil, 1, ended(api.Trapped, 77, 0)},
		{"trapped later", comp + "sb r1 r8 0;trap 0" + gate, []uint64{9}, nil, 2, ended(api.Trapped, 0, 1)},
		{"starved at first", comp + "in r1;jmp 0" + gate, []uint64{9}, nil, 1, starved(0)},
		{"starved later", comp + "in r1;jmp 0" + gate, []uint64{9}, []uint64{1, 2}, 5, starved(0)},
		{"too many calls", comp + "call g;ret" + gate, []uint64{9}, nil, 2, ended(api.Overflow, 0, 0)},
		{"too many calls later", comp + "call b;out r1;call b;halt r1;comp;beq r1 r0 2;call b;ret" + gate + ";gate b 1 0 int ->", []uint64{9}, nil, 3, api.Outcome{End: api.Overflow, Gate: 1, Pc: 1}},
	}
}

// TestEnds: with more fuel than enough, with the last step that it lets, and with one less.
func TestEnds(t *testing.T) {
	for _, c := range endings() {
		r := run{m: parse(t, c.text), args: c.args, inputs: c.inputs}
		for _, fuel := range []int{c.steps, c.steps + 1, 100, api.MaxFuel} {
			r.fuel = fuel
			x := recorded(t, r)
			checkLen(t, c.what, x, c.steps)
			checkOutcome(t, c.what, x, c.want)
			checkBehindTheEnd(t, c, x)
		}
		r.fuel = c.steps - 1
		x, m := recorded(t, r), modelOf(t, r)
		checkLen(t, c.what+", one less", x, c.steps-1)
		checkOutcome(t, c.what+", one less", x, api.Outcome{End: api.Spent, Gate: c.want.Gate, Pc: c.want.Pc})
		m.checkEnd(t, c.what+", one less", x)
		m.checkPlaces(t, c.what+", one less", x, rising(m.len()), []uint64{0})
		// It would go on at its last place.
		seek{c.want.Gate, c.want.Pc, most, true, c.steps - 1}.check(t, c.what+", one less", x)
	}
}

// checkBehindTheEnd: the step with which a run ended has changed nothing, and behind it nothing is at hand.
func checkBehindTheEnd(t *testing.T, c ending, x *tape.Tape) {
	t.Helper()
	ahead, e := x.At(c.steps - 1)
	behind, f := x.At(c.steps)
	if e != api.OK || f != api.OK || ahead != behind {
		t.Errorf("21.3: %s: behind the end %+v, %d, ahead of it %+v, %d", c.what, behind, f, ahead, e)
	}
	if ahead.Gate != c.want.Gate || ahead.Pc != c.want.Pc {
		t.Errorf("21.3: %s: it ended in the gate %d, at %d, want %d, %d", c.what, ahead.Gate, ahead.Pc, c.want.Gate, c.want.Pc)
	}
	if got := x.Find(ahead.Gate, ahead.Pc, c.steps, false); got != -1 {
		t.Errorf("21.6: %s: behind the end it is at hand still: %d", c.what, got)
	}
	if got := x.Find(ahead.Gate, ahead.Pc, most, true); got != c.steps-1 {
		t.Errorf("21.6: %s: what ended it is at hand at %d, want %d", c.what, got, c.steps-1)
	}
}

// TestEndsAgainstModel: likewise, as the first machine does it, with all fuels.
func TestEndsAgainstModel(t *testing.T) {
	for _, c := range endings() {
		for fuel := range c.steps + 2 {
			r := run{m: parse(t, c.text), args: c.args, inputs: c.inputs, fuel: fuel}
			x, m := recorded(t, r), modelOf(t, r)
			m.checkEnd(t, c.what, x)
			m.checkPlaces(t, c.what, x, rising(m.len()), []uint64{0, 1})
			m.checkStores(t, c.what, x)
			m.checkFinds(t, c.what, x, len(r.m.Gates), 4)
		}
	}
}
