package cert_test

import (
	"slices"
	"testing"

	"paddock/api"
	"paddock/capmachine"
	"paddock/cert"
	"paddock/checker"
	"paddock/erase"
	"paddock/fastvm"
	"paddock/regtype"
)

// most is how many steps a run of these tests is followed.
const most = 200

// begin is how a run begins: with which arguments and inputs, at which gate.
type begin struct {
	gate         int
	args, inputs []uint64
}

// begins are runs from each gate that can be an entry.
func (d dice) begins(m api.Image) []begin {
	var l []begin
	for gate, g := range m.Gates {
		if isEntry(g) {
			l = append(l, begin{gate, d.numbers(len(g.Args)), d.numbers(d.IntN(30))})
		}
	}
	return l
}

// bare is chapter 12's Program of a report with a Table and no Reason.
func bare(t testing.TB, m api.Image, x api.Table) api.Program {
	t.Helper()
	p, ok := erase.Program(m, api.Report{Table: x})
	if !ok {
		t.Fatalf("22.5: there is no Program of the Table, of\n%s", shown(m))
	}
	return p
}

// follow runs a program on both machines, step by step: on the first one all that registers hold is what the Table allows; the second one does the same on bare addresses. It tells the end.
func follow(t testing.TB, m api.Image, x api.Table, p api.Program, b begin) api.End {
	t.Helper()
	one, e := capmachine.New(m, b.gate, b.args, b.inputs)
	two, f := fastvm.New(p, b.gate, b.args, b.inputs)
	if e != api.OK || f != api.OK {
		t.Fatalf("a run may not begin: %d, %d\n%s", e, f, shown(m))
	}
	for range most {
		s := one.Snap()
		if !regtype.Allows(x[s.Gate][s.Pc], s.Regs) {
			t.Fatalf("22.5: %+v is not allowed by %v, of\n%s", s, x[s.Gate][s.Pc], shown(m))
		}
		if two.Snap() != erase.Snap(s) {
			t.Fatalf("22.5: on bare addresses it is %+v, want %+v, of\n%s", two.Snap(), erase.Snap(s), shown(m))
		}
		o, w := one.Step(), two.Step()
		if o.End == api.Faulted {
			t.Fatalf("22.5: %+v, of\n%s", o, shown(m))
		}
		if o != w {
			t.Fatalf("22.5: %+v, on bare addresses %+v, of\n%s", o, w, shown(m))
		}
		if o.End != api.Running {
			if !slices.Equal(one.Out(), two.Out()) || !slices.Equal(one.Touches(), two.Touches()) || one.Memory().Bytes() != two.Memory() {
				t.Fatalf("22.5: on bare addresses other things were put out, touched or written, of\n%s", shown(m))
			}
			return o.End
		}
	}
	return api.Spent
}

// checkFollows looks what follows of a certificate that is let by.
func checkFollows(t testing.TB, m api.Image, s string, runs []begin, ends map[api.End]int) {
	t.Helper()
	x := table(t, m, s)
	if !checker.Settled(m, x) {
		t.Fatalf("22.5: the Table is not settled, of\n%s\nby\n%s", shown(m), told(m, s))
	}
	if hasReason(m, x) {
		t.Fatalf("22.5: the Table has a Reason, of\n%s\nby\n%s", shown(m), told(m, s))
	}
	p := bare(t, m, x)
	for _, b := range runs {
		ends[follow(t, m, x, p, b)]++
	}
}

// checkUnder looks whether each state of a Table is under that of Check's table.
func checkUnder(t testing.TB, m api.Image, s string) {
	t.Helper()
	x := table(t, m, s)
	for gate, states := range checker.Check(m).Table {
		for pc := range states {
			if !regtype.UnderState(x[gate][pc], states[pc]) {
				t.Fatalf("22.5: gate %d, instruction %d: %v, Check's table has %v, of\n%s", gate, pc, x[gate][pc], states[pc], shown(m))
			}
		}
	}
}

// checkEnds looks whether each of these ends came about.
func checkEnds(t *testing.T, ends map[api.End]int, want ...api.End) {
	t.Helper()
	for _, end := range want {
		if ends[end] < 10 {
			t.Errorf("22.5: the end %d came %d times: the dice are too narrow", end, ends[end])
		}
	}
}

// TestFollowsOfMade: of what Make makes, and of certificates that say all that Check's table does.
func TestFollowsOfMade(t *testing.T) {
	t.Parallel()
	ends := map[api.End]int{}
	for k, m := range many() {
		d := rolled(7000 + uint64(k))
		all := saying(checker.Check(m).Table)
		for _, s := range []string{made(t, m), all} {
			checkShows(t, "what Check's table says", m, s)
			checkUnder(t, m, s)
			checkFollows(t, m, s, d.begins(m), ends)
		}
	}
	checkEnds(t, ends, api.Halted, api.Guarded, api.Trapped, api.Spent, api.Overflow, api.Starved)
}

// faults tells whether a run of a program faults on the first machine.
func faults(m api.Image, runs []begin) bool {
	for _, b := range runs {
		x, e := capmachine.New(m, b.gate, b.args, b.inputs)
		if e == api.OK && x.Run(1000).End == api.Faulted {
			return true
		}
	}
	return false
}

// TestFollowsOfAny: whatever bytes a certificate is made of, of programs that are taken and such that are not.
func TestFollowsOfAny(t *testing.T) {
	t.Parallel()
	ends := map[api.End]int{}
	others, mild, faulting := 0, 0, 0
	try := func(d dice, m api.Image, l []string) {
		runs := d.begins(m)
		isMild, isFaulting := !isTaken(m), faults(m, runs)
		if isFaulting {
			faulting++
		}
		for _, s := range l {
			e, _, _ := cert.Verify(m, s)
			switch {
			case e != api.OK:
				continue
			case isFaulting:
				t.Fatalf("22.5: it is shown, and faults:\n%s\nby\n%s", shown(m), told(m, s))
			case isMild:
				mild++
			default:
				others++
			}
			checkFollows(t, m, s, runs, ends)
		}
	}
	for k, m := range many() {
		d := rolled(8000 + uint64(k))
		try(d, m, d.certificates(m, 4))
	}
	for seed := range uint64(200) {
		d := rolled(9000 + seed)
		m := d.any()
		try(d, m, d.certificates(m, 4))
		m = d.counting()
		l := d.certificates(m, 3)
		if x, ok := patient(m); ok {
			l = append(l, saying(x), saying(kept(m, x)), saying(d.turned(m, x)), saying(d.turned(m, kept(m, x))))
		}
		try(d, m, l)
	}
	checkEnds(t, ends, api.Halted, api.Guarded, api.Trapped, api.Spent, api.Overflow, api.Starved)
	if others < 500 || mild < 200 || faulting < 50 {
		t.Errorf("22.5: of taken programs %d certificates were let by, of others %d; %d programs faulted: the dice are too narrow", others, mild, faulting)
	}
}

// TestFollowsOfMild: a program that the checker does not take runs to its guard, and has a Program by the Table alone.
func TestFollowsOfMild(t *testing.T) {
	m := alone(t, mild)
	s := certificate(row(at(1, integer(0, 31), integer(0, 255)).with(6, nothing())))
	if _, ok := erase.Program(m, checker.Check(m)); ok {
		t.Fatalf("it is taken")
	}
	ends := map[api.End]int{}
	checkFollows(t, m, s, []begin{{}}, ends)
	if ends[api.Guarded] != 1 {
		t.Errorf("22.5: mild: %v, want one that is Guarded", ends)
	}
	x, _ := fastvm.New(bare(t, m, table(t, m, s)), 0, nil, nil)
	if o := x.Run(1000); o != (api.Outcome{End: api.Guarded, Value: 7, Pc: 4}) || len(x.Touches()) != 32 {
		t.Errorf("22.5: mild: %+v, %d touches", o, len(x.Touches()))
	}
}

// TestNeverShown: programs that fault, by certificates of all sorts.
func TestNeverShown(t *testing.T) {
	for _, c := range []string{
		"lb r1 r1 0;ret", "in r1;cinc r6 r8 r1;lb r2 r6 0;halt r2", "li r1 1", "li r1 0;a: cinc r6 r8 r1;lb r2 r6 0;addi r1 r1 1;glt r1 33 7;jmp a",
		"mov r6 r8;a: lb r2 r6 0;cinci r6 r6 1;jmp a", "a: in r1;bne r1 r0 a;out r8;ret",
	} {
		m := alone(t, c)
		d := rolled(10)
		if !faults(m, []begin{{inputs: []uint64{0, 1}}, {inputs: []uint64{top, 0}}}) {
			t.Fatalf("%s: it does not fault", c)
		}
		l := append(d.certificates(m, 2000), certificate(row()), certificate(row(blank(0))))
		if x, ok := patient(m); ok {
			l = append(l, saying(x))
			for range 500 {
				l = append(l, saying(d.turned(m, x)))
			}
		}
		for _, s := range l {
			if v := against(t, m, s); v.e != api.ErrProve {
				t.Fatalf("22.5: %s: %d, by\n%s", c, v.e, told(m, s))
			}
		}
	}
}
