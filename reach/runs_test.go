package reach_test

import (
	"slices"
	"testing"

	"paddock/api"
	"paddock/capmachine"
	"paddock/image"
	"paddock/instr"
	"paddock/reach"
)

// follower goes with a run, step by step.
type follower struct {
	m       api.Image
	x       *capmachine.Machine
	at      api.Snap
	from    []api.Cap   // the registers' capabilities, and the code's
	dom     []api.Cap   // what can be come to from these
	callers [][]api.Cap // from what those begin that wait for a return
	grants  [][]api.Cap // what each compartment is granted
	isTaken bool        // it is asked whether compartments are within their grants
	tally   *tally
}

// tally counts what came about.
type tally struct {
	ops     map[api.Op]int // those that went on, or back, or into another compartment
	touches int
	grown   int // steps behind which more could be come to
	shrunk  int // steps behind which less could be come to
	granted int // steps at which the Grant gives more than can be come to
	beyond  int // steps at which more can be come to than the Grant gives
}

func untold() *tally { return &tally{ops: map[api.Op]int{}} }

func begin(t *testing.T, m api.Image, inputs []uint64, c *tally) *follower {
	t.Helper()
	x, e := capmachine.New(m, 0, make([]uint64, len(m.Gates[0].Args)), inputs)
	if e != api.OK {
		t.Fatalf("a run may not begin: %d", e)
	}
	f := &follower{m: m, x: x, tally: c}
	for comp := range m.Comps {
		f.grants = append(f.grants, reach.Grant(m, comp))
	}
	f.look()
	return f
}

// look tells where the run stands, and what can be come to there.
func (f *follower) look() {
	f.at = f.x.Snap()
	code, _ := image.CodeCap(f.m, f.comp(), 0)
	f.from = append(reach.Caps(f.at.Regs[:]...), code)
	f.dom = reach.Dom(f.x.Memory(), f.from...)
}

func (f *follower) comp() int { return f.m.Gates[f.at.Gate].Comp }

// inst is the instruction at hand, if it is there.
func (f *follower) inst() api.Inst {
	if code := f.m.Comps[f.comp()].Code; f.at.Pc < len(code) {
		return code[f.at.Pc]
	}
	return api.Inst{}
}

// most is all that may be come to behind the instruction at hand: at a call or a return what both sides can come to.
func (f *follower) most() []api.Cap {
	from := slices.Clone(f.from)
	switch i := f.inst(); {
	case i.Op == api.CALL:
		comp := f.m.Gates[i.Imm].Comp
		code, _ := image.CodeCap(f.m, comp, 0)
		from = append(from, code)
		for _, r := range f.m.Comps[comp].Roots {
			from = append(from, r.Cap)
		}
	case i.Op == api.RET && len(f.callers) > 0:
		from = append(from, f.callers[len(f.callers)-1]...)
	}
	return reach.Dom(f.x.Memory(), from...)
}

// waits keeps in mind who waits for a return, behind a step from there.
func (f *follower) waits(op api.Op, from []api.Cap) {
	switch op {
	case api.CALL:
		f.callers = append(f.callers, from)
	case api.RET:
		f.callers = f.callers[:len(f.callers)-1]
	}
}

// step does one, and asks what can be come to behind it, and whether what was touched could be.
func (f *follower) step(t *testing.T) api.Outcome {
	t.Helper()
	op, from, dom, most, touched := f.inst().Op, f.from, f.dom, f.most(), len(f.x.Touches())
	o := f.x.Step()
	f.look()
	for _, x := range f.x.Touches()[touched:] {
		f.tally.touches++
		if !reach.Covers(dom, x) || !plainCovers(dom, x) {
			t.Errorf("14.7: %s: %+v is not covered by %v", instr.Name(op), x, dom)
		}
	}
	if o.End != api.Running {
		checkCaps(t, "14.7: behind the end all is as it was", f.dom, dom)
		return o
	}
	f.waits(op, from)
	f.checkStays(t, "14.7, T3: behind "+instr.Name(op), most)
	f.count(op, dom)
	return o
}

// run follows until the run is over.
func (f *follower) run(t *testing.T) api.Outcome {
	t.Helper()
	for range fuel {
		f.checkGranted(t)
		if o := f.step(t); o.End != api.Running || t.Failed() {
			return o
		}
	}
	return api.Outcome{}
}

// checkStays asks whether what can be come to now is within something.
func (f *follower) checkStays(t *testing.T, what string, all []api.Cap) {
	t.Helper()
	if !reach.Within(f.dom, all) || !plainWithin(f.dom, all) {
		t.Errorf("%s: %v is not within %v", what, f.dom, all)
	}
}

func (f *follower) count(op api.Op, dom []api.Cap) {
	f.tally.ops[op]++
	if !reach.Within(f.dom, dom) {
		f.tally.grown++
	}
	if !reach.Within(dom, f.dom) {
		f.tally.shrunk++
	}
}

// checkGranted asks whether a compartment is within its Grant now, if the program is taken.
func (f *follower) checkGranted(t *testing.T) {
	t.Helper()
	grant := f.grants[f.comp()]
	if f.isTaken {
		f.checkStays(t, "14.7: the Grant", grant)
	}
	if !reach.Within(f.dom, grant) {
		f.tally.beyond++
	}
	if !reach.Within(grant, f.dom) {
		f.tally.granted++
	}
}

// goesOn are the operations behind which a run may go on.
func goesOn() []api.Op {
	var l []api.Op
	for _, op := range ops() {
		if op != api.HALT && op != api.TRAP {
			l = append(l, op)
		}
	}
	return l
}

// check looks whether all came about often enough, and what capabilities come and go by very often.
func (c *tally) check(t *testing.T) {
	t.Helper()
	often := []api.Op{api.CALL, api.RET, api.CPC, api.CINCI, api.CSETBI, api.CANDP, api.CSEAL, api.CUNSEAL, api.LC, api.SC}
	for _, op := range goesOn() {
		if c.ops[op] < 3 || c.ops[op] < 30 && slices.Contains(often, op) {
			t.Errorf("14.7: %s was done %d times: the programs are too narrow", instr.Name(op), c.ops[op])
		}
	}
	if c.touches < 300 || c.grown < 30 || c.shrunk < 30 || c.granted < 100 {
		t.Errorf("14.7: touched %d times; more could be come to %d times, less %d times, less than is granted %d times: the programs are too narrow", c.touches, c.grown, c.shrunk, c.granted)
	}
}

func (d dice) inputs() []uint64 {
	var l []uint64
	for range d.IntN(40) {
		l = append(l, d.Uint64N(40))
	}
	return l
}

// TestNothingIsGained: of programs that are not taken, mostly, and run all the same.
func TestNothingIsGained(t *testing.T) {
	t.Parallel()
	c := untold()
	refused := 0
	for seed := range uint64(120) {
		d := rolled(seed)
		inputs := d.inputs()
		f := begin(t, d.running(inputs), inputs, c)
		f.isTaken = isTaken(f.m)
		f.run(t)
		if t.Failed() {
			t.Fatalf("14.7: the program %d of the dice", seed)
		}
		if !f.isTaken {
			refused++
		}
	}
	c.check(t)
	if refused < 60 || c.beyond < 20 {
		t.Errorf("%d programs were refused, %d steps beyond grants: the programs are too narrow", refused, c.beyond)
	}
}

// TestNothingIsGainedByFaults: of programs in which anything may stand, which fault soon, mostly.
func TestNothingIsGainedByFaults(t *testing.T) {
	t.Parallel()
	c := untold()
	faults := map[api.Fault]int{}
	for seed := range uint64(2000) {
		d := rolled(seed)
		f := begin(t, d.wild(), d.inputs(), c)
		faults[f.run(t).Fault]++
		if t.Failed() {
			t.Fatalf("14.7: the program %d of the dice", seed)
		}
	}
	for fault := api.FTag; fault <= api.FGate; fault++ {
		if faults[fault] < 3 {
			t.Errorf("14.7: the fault %d came %d times: the programs are too narrow", fault, faults[fault])
		}
	}
}

// TestWithinTheirGrants: of programs that are taken.
func TestWithinTheirGrants(t *testing.T) {
	t.Parallel()
	c := untold()
	for seed := range uint64(60) {
		d := rolled(seed)
		inputs := d.inputs()
		m := d.taken(inputs)
		for range 4 {
			f := begin(t, m, inputs, c)
			f.isTaken = true
			inputs = d.inputs()
			if o := f.run(t); o.End == api.Faulted {
				t.Fatalf("a program that is taken faults: %+v", o)
			}
			if t.Failed() {
				t.Fatalf("14.7: the program %d of the dice", seed)
			}
		}
	}
	c.check(t)
}

// TestGrantIsThePlainOne: of the programs of the dice.
func TestGrantIsThePlainOne(t *testing.T) {
	t.Parallel()
	for seed := range uint64(1500) {
		m := rolled(seed).wild()
		for comp := range m.Comps {
			checkCaps(t, "14.6: a program of the dice", reach.Grant(m, comp), plainGrant(m, comp))
		}
	}
}
