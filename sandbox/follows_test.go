package sandbox_test

import (
	"fmt"
	"testing"

	"paddock/api"
	"paddock/image"
	"paddock/sandbox"
)

// tally counts how runs ended, and what was done ahead of that.
type tally struct {
	ends                  map[api.End]int
	elsewhere, out, touch int
}

func (c *tally) count(b begun, r api.Result) {
	c.ends[r.Outcome.End]++
	if r.Outcome.Gate != b.gate {
		c.elsewhere++
	}
	if len(r.Out) > 1 {
		c.out++
	}
	if len(r.Touches) > 1 {
		c.touch++
	}
}

// check looks whether the dice are wide enough.
func (c *tally) check(t *testing.T) {
	t.Helper()
	for _, end := range []api.End{api.Halted, api.Guarded, api.Trapped, api.Spent, api.Overflow, api.Starved} {
		if c.ends[end] < 40 {
			t.Errorf("%d runs end so: %d; the dice are too narrow", c.ends[end], end)
		}
	}
	if c.elsewhere < 100 || c.out < 100 || c.touch < 100 {
		t.Errorf("%d runs end in another gate, %d put something out, %d touch something: the dice are too narrow", c.elsewhere, c.out, c.touch)
	}
}

// checkAlike asks both for a run: they answer the same, and what so many steps of chapter 7's machine come to; neither ends Faulted.
func checkAlike(t *testing.T, p *sandbox.Program, m api.Image, b begun) api.Result {
	t.Helper()
	want := stepped(t, m, b)
	if want.Outcome.End == api.Faulted || want.Outcome.End == api.Running {
		t.Fatalf("T1: a run of %+v ends so: %+v", b, want.Outcome)
	}
	for _, w := range ways(p) {
		if r, e := w.asked(b); e != api.OK || !sameResult(r, want) {
			t.Fatalf("16.3: %s of %+v: %d, %+v, want %+v, of\n%+v", w.name, b, e, r, want, m)
		}
	}
	return want
}

// isEntry tells whether a run can begin at a gate: by its types alone.
func isEntry(g api.Gate) bool {
	for _, t := range g.Args {
		if t.Cap {
			return false
		}
	}
	return true
}

// TestBothAlike: programs of the dice that are taken, from each gate.
func TestBothAlike(t *testing.T) {
	t.Parallel()
	c := tally{ends: map[api.End]int{}}
	for seed := range uint64(120) {
		d := rolled(seed)
		m := d.taken()
		d.memory(&m)
		p := loadedOf(t, m)
		for gate, g := range m.Gates {
			for range 12 {
				b := begun{gate, d.numbers(len(g.Args)), d.numbers(d.IntN(8)), of(d, 0, 1, 5, 20, 60, 150, 150)}
				if !isEntry(g) {
					checkNoRun(t, "a gate that is no entry", p, b, api.ErrEntry)
					continue
				}
				c.count(b, checkAlike(t, p, m, b))
			}
		}
	}
	c.check(t)
}

// TestStepByStep: with one step more each time.
func TestStepByStep(t *testing.T) {
	t.Parallel()
	for seed := uint64(1000); seed < 1025; seed++ {
		d := rolled(seed)
		m := d.taken()
		p := loadedOf(t, m)
		for _, gate := range []int{0, 1, 3, 4} {
			b := begun{gate: gate, args: d.numbers(len(m.Gates[gate].Args)), inputs: d.numbers(6)}
			for b.fuel = range 60 {
				checkAlike(t, p, m, b)
			}
		}
	}
}

// TestLoadOfTheDice: programs in which anything may stand, and bytes in which anything may be turned.
func TestLoadOfTheDice(t *testing.T) {
	t.Parallel()
	told := map[api.Errno]int{}
	for seed := range uint64(240) {
		d := rolled(seed)
		m := d.any()
		if seed%3 == 0 {
			m = d.taken()
		}
		s, e := image.Encode(m)
		if e != api.OK {
			t.Fatalf("the dice make a program that is not right: %d", e)
		}
		told[checkLoad(t, fmt.Sprintf("the program %d", seed), s)]++
		for range 15 {
			l := []byte(s)
			for range 1 + d.IntN(2) {
				l[d.IntN(of(d, 10, len(l), len(l), len(l)))] = of(d, 0, 1, 2, 8, 16, 255, byte(d.IntN(256)))
			}
			told[checkLoad(t, fmt.Sprintf("the program %d, turned", seed), string(l[:len(l)-of(d, 0, 0, 0, 0, 0, d.IntN(len(l)))]))]++
		}
	}
	for _, e := range []api.Errno{api.OK, api.ErrCheck, api.ErrCut, api.ErrCount, api.ErrRegion, api.ErrType, api.ErrSlot, api.ErrRoot, api.ErrTarget, api.ErrGate, api.ErrRest, api.ErrOp, api.ErrField} {
		if told[e] < 5 {
			t.Errorf("%d is told %d times: the dice are too narrow", e, told[e])
		}
	}
}

// TestTurnedAndTaken: whatever bytes are taken, no run of them faults.
func TestTurnedAndTaken(t *testing.T) {
	t.Parallel()
	others := 0
	for seed := range uint64(80) {
		d := rolled(2000 + seed)
		s := encoded(t, d.taken())
		for range 40 {
			at := d.IntN(len(s))
			x := turned(s, at, byte(d.IntN(256)))
			p, e, _, _ := sandbox.Load(x)
			if e != api.OK || x == s {
				continue
			}
			others++
			m, _, _ := image.Decode(x)
			for gate, g := range m.Gates {
				if isEntry(g) {
					checkAlike(t, p, m, begun{gate, d.numbers(len(g.Args)), d.numbers(5), 100})
				}
			}
		}
	}
	if others < 200 {
		t.Errorf("%d programs were taken: the dice are too narrow", others)
	}
}
