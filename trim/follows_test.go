package trim_test

import (
	"reflect"
	"slices"
	"testing"

	"paddock/api"
	"paddock/checker"
	"paddock/trim"
)

// most is how many steps runs of the dice's programs do.
const most = 120

// checkFolded looks at what follows of Fold for the checker: it is taken, by the same table, in as many steps; and folding it again changes nothing.
func checkFolded(t testing.TB, what string, m, f api.Image) {
	t.Helper()
	was, now := checker.Check(m), checker.Check(f)
	if now.Reason != api.Fine || now.Steps != was.Steps || !reflect.DeepEqual(now.Table, was.Table) {
		t.Fatalf("19.4: %s: folded: %d, %d steps, want %d, or another table:\n%s\n%s", what, now.Reason, now.Steps, was.Steps, shown(m), shown(f))
	}
	checkSame(t, "19.4: "+what+": Fold of Fold", folded(t, f), f)
}

// checkPacked looks at what follows of Pack of a right program by its text.
func checkPacked(t testing.TB, what string, m, p api.Image) {
	t.Helper()
	if !isRight(p) {
		t.Fatalf("19.4: %s: packed it is not right:\n%s", what, shown(m))
	}
	checkSame(t, "19.4: "+what+": Pack of Pack", trim.Pack(p), p)
	for k, c := range p.Comps {
		if len(c.Code) > len(m.Comps[k].Code) {
			t.Fatalf("19.4: %s: the compartment %d is longer", what, k)
		}
		for pc := range c.Code {
			if mayBePacked(c) && isIdle(c.Code, pc) {
				t.Fatalf("19.4: %s: packed there is an idle one at %d:\n%s", what, pc, shown(p))
			}
		}
	}
}

// checkOnlyCode looks whether nothing but code and entries is another.
func checkOnlyCode(t testing.TB, what string, m, now api.Image) {
	t.Helper()
	same := m.Depth == now.Depth && reflect.DeepEqual(m.Regions, now.Regions) && len(m.Comps) == len(now.Comps) && len(m.Gates) == len(now.Gates)
	for k := range m.Comps {
		same = same && slices.Equal(m.Comps[k].Roots, now.Comps[k].Roots)
	}
	for k, g := range m.Gates {
		n := now.Gates[k]
		same = same && g.Comp == n.Comp && slices.Equal(g.Args, n.Args) && slices.Equal(g.Results, n.Results)
	}
	if !same {
		t.Fatalf("19: %s: more than code and entries is another:\n%s\n%s", what, shown(m), shown(now))
	}
}

// TestFollowsForTheChecker: of programs that are taken.
func TestFollowsForTheChecker(t *testing.T) {
	t.Parallel()
	for _, m := range many() {
		f := folded(t, m)
		checkOnlyCode(t, "Fold", m, f)
		for k := range m.Gates {
			if f.Gates[k].Entry != m.Gates[k].Entry {
				t.Fatalf("19.1: Fold has turned an entry:\n%s\n%s", shown(m), shown(f))
			}
		}
		checkFolded(t, "dice", m, f)
		checkPacked(t, "dice", m, trim.Pack(m))
		checkPacked(t, "dice, folded", f, trim.Pack(f))
		z := trimmed(t, m)
		checkOnlyCode(t, "Trim", m, z)
		if !isTaken(z) {
			t.Fatalf("19.4: what Trim makes is not taken:\n%s\n%s", shown(m), shown(z))
		}
	}
	for what, m := range turned(t) {
		checkFolded(t, what, m, folded(t, m))
	}
}

// TestFollowsOfPack: of programs that are right, taken or not.
func TestFollowsOfPack(t *testing.T) {
	t.Parallel()
	less := 0
	for seed := range uint64(1500) {
		m := rolled(2000 + seed).any()
		p := trim.Pack(m)
		checkOnlyCode(t, "Pack", m, p)
		checkPacked(t, "any dice", m, p)
		if !same(m, p) {
			less++
		}
	}
	if less < 500 {
		t.Errorf("%d programs had idle instructions: the dice are too narrow", less)
	}
}

// lockstep holds two programs against each other on the first machine, step by step.
func lockstep(t testing.TB, m, f api.Image, b begin) api.End {
	t.Helper()
	x, y := first(t, m, b), first(t, f, b)
	for range most {
		was, now := x.Step(), y.Step()
		if was != now || x.Snap() != y.Snap() {
			t.Fatalf("19.4: %+v, %+v, folded %+v, %+v:\n%s\n%s", was, x.Snap(), now, y.Snap(), shown(m), shown(f))
		}
		if !slices.Equal(x.Out(), y.Out()) || !slices.Equal(x.Touches(), y.Touches()) {
			t.Fatalf("19.4: put out and touched: %v, %v, folded %v, %v", x.Out(), x.Touches(), y.Out(), y.Touches())
		}
		if was.End != api.Running {
			if x.Memory().Bytes() != y.Memory().Bytes() {
				t.Fatalf("19.4: folded, its memory is another one:\n%s", shown(m))
			}
			return was.End
		}
	}
	return api.Spent
}

// checkEnds looks whether each of these ends came about.
func checkEnds(t *testing.T, ends map[api.End]int, want ...api.End) {
	t.Helper()
	for _, end := range want {
		if ends[end] < 10 {
			t.Errorf("19.4: the end %d came %d times: the dice are too narrow", end, ends[end])
		}
	}
}

// TestFoldStepByStep: on the first machine.
func TestFoldStepByStep(t *testing.T) {
	t.Parallel()
	ends := map[api.End]int{}
	for k, m := range many() {
		d := rolled(3000 + uint64(k))
		f := folded(t, m)
		for range 3 {
			for _, b := range d.begins(m) {
				ends[lockstep(t, m, f, b)]++
			}
		}
	}
	checkEnds(t, ends, api.Halted, api.Guarded, api.Trapped, api.Spent, api.Overflow, api.Starved)
}

// TestPackRuns: of programs that are right, on the first machine, faults too.
func TestPackRuns(t *testing.T) {
	t.Parallel()
	ends := map[api.End]int{}
	sooner := 0
	for seed := range uint64(1200) {
		d := rolled(4000 + seed)
		m := d.any()
		p := trim.Pack(m)
		for _, b := range d.begins(m) {
			end, less := checkLike(t, "19.4: packed", onFirst(t, m, b), onFirst(t, p, b), most)
			ends[end]++
			sooner += min(less, 1)
		}
	}
	checkEnds(t, ends, api.Halted, api.Guarded, api.Trapped, api.Spent, api.Overflow, api.Starved, api.Faulted)
	if sooner < 500 {
		t.Errorf("19.4: %d runs were shorter: the dice are too narrow", sooner)
	}
}

// TestTrimRuns: of programs that are taken, on both machines.
func TestTrimRuns(t *testing.T) {
	t.Parallel()
	ends := map[api.End]int{}
	sooner := 0
	for k, m := range many() {
		d := rolled(5000 + uint64(k))
		z := trimmed(t, m)
		for _, b := range d.begins(m) {
			checkLike(t, "19.4: trimmed, on the first machine", onFirst(t, m, b), onFirst(t, z, b), most)
			checkLike(t, "19.4: trimmed, from the first machine to the second", onFirst(t, m, b), onSecond(t, z, b), most)
			end, less := checkLike(t, "19.4: trimmed, on the second machine", onSecond(t, m, b), onSecond(t, z, b), most)
			ends[end]++
			sooner += min(less, 1)
		}
	}
	checkEnds(t, ends, api.Halted, api.Guarded, api.Trapped, api.Spent, api.Overflow, api.Starved)
	if sooner < 200 {
		t.Errorf("19.4: %d runs were shorter: the dice are too narrow", sooner)
	}
}
