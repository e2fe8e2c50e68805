package transfer_test

import (
	"testing"

	"paddock/api"
	"paddock/instr"
	"paddock/regtype"
	"paddock/transfer"
)

// within is a span within another one.
func (d dice) within(a api.Span) api.Span {
	switch d.IntN(4) {
	case 0:
		return a
	case 1:
		return one(of(d, a.Lo, a.Hi))
	}
	n := a.Lo + d.Uint64N(max(1, a.Hi-a.Lo))
	if d.IntN(2) == 0 {
		return s(a.Lo, n)
	}
	return s(n, a.Hi)
}

// less is something under r: it says no less.
func (d dice) less(r api.RType, capability bool) api.RType {
	r = regtype.Join(r, r)
	switch r.Kind {
	case api.Any:
		return d.rtype(capability)
	case api.AnInt:
		r.N = d.within(r.N)
		return r
	}
	r.Base, r.End, r.Point = d.within(r.Base), d.within(r.End), d.within(r.Point)
	r.Must |= r.May & d.perms()
	r.May = r.Must | r.May&d.perms()
	if r.Seal == -1 {
		r.Seal = d.seal()
	}
	return r
}

// TestLessIsSaid: what is under something that is let by is let by, and what is next is under what was next.
func TestLessIsSaid(t *testing.T) {
	d := rolled(2)
	fine := map[api.Op]int{}
	unlike := map[api.Op]int{}
	for range 3000 {
		for _, op := range ops() {
			m, more := d.asked(op)
			less := more
			for k := range less.Regs {
				less.Regs[k] = d.less(more.Regs[k], k >= 8)
			}
			if !regtype.UnderState(less, more) {
				t.Fatalf("the dice made %+v, which is not under %+v", less, more)
			}
			all, some := transfer.Do(m, inner, at, more), transfer.Do(m, inner, at, less)
			if all.Reason != api.Fine {
				continue
			}
			fine[op]++
			if !sameStep(all, some) {
				unlike[op]++
			}
			checkLess(t, m.Comps[1].Code[at], all, some)
			if t.Failed() {
				t.Fatalf("of %+v and %+v", less, more)
			}
		}
	}
	for _, op := range ops() {
		if fine[op] < 50 || unlike[op] < 20 && op != api.HALT && op != api.TRAP && op != api.RET {
			t.Errorf("10.9: %s was let by %d times, %d times not alike: the dice are too narrow", instr.Name(op), fine[op], unlike[op])
		}
	}
}

func checkLess(t *testing.T, i api.Inst, all, some api.Step) {
	t.Helper()
	if some.Reason != api.Fine {
		t.Errorf("10.9: %+v is let by, and not where more is known: %d", i, some.Reason)
	}
	for _, n := range some.Next {
		if !isUnder(n, all.Next) {
			t.Errorf("10.9: behind %+v comes %+v, which is under none of %+v", i, n, all.Next)
		}
	}
	// What was known of the answer stays known.
	if all.Verdict != api.Plain && (some.Verdict != all.Verdict || some.Value != all.Value) {
		t.Errorf("10.9: %+v had the Verdict %d, %d, and where more is known %d, %d", i, all.Verdict, all.Value, some.Verdict, some.Value)
	}
}

func isUnder(n api.Succ, l []api.Succ) bool {
	for _, o := range l {
		if o.Pc == n.Pc && regtype.UnderState(n.State, o.State) {
			return true
		}
	}
	return false
}

// TestWhatIsNextIsRightlyBuilt: and Live, and there, each instruction once; and it says the same of what is said rightly.
func TestWhatIsNextIsRightlyBuilt(t *testing.T) {
	d := rolled(3)
	for range 500 {
		for _, op := range ops() {
			m, st := d.asked(op)
			got := transfer.Do(m, inner, at, st)
			checkStep(t, "10.2: what is not rightly built is Any", transfer.Do(m, inner, at, regtype.JoinState(st, st)), got)
			seen := map[int]int{}
			for _, n := range got.Next {
				if !n.State.Live || n.State != regtype.JoinState(n.State, api.State{}) || n.Pc < 0 || n.Pc >= len(m.Comps[1].Code) {
					t.Fatalf("10.2: behind %+v comes %+v", m.Comps[1].Code[at], n)
				}
				seen[n.Pc]++
			}
			if len(seen) != len(got.Next) || got.Reason != api.Fine && (got.Verdict != api.Plain || got.Value != 0 || got.Next != nil) {
				t.Fatalf("10.2: %+v: %+v", m.Comps[1].Code[at], got)
			}
		}
	}
}
