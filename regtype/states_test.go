package regtype_test

import (
	"testing"

	"paddock/api"
	"paddock/regtype"
)

// alive is a state with the same in all registers.
func alive(r api.RType) api.State {
	a := api.State{Live: true}
	for k := range a.Regs {
		a.Regs[k] = r
	}
	return a
}

// dead is a state that can't be come to, with something in it.
func dead(r api.RType) api.State {
	a := alive(r)
	a.Live = false
	return a
}

// put is a state with something else in one register.
func put(a api.State, k int, r api.RType) api.State {
	a.Regs[k] = r
	return a
}

// TestEachRegister: what one register has decides, whichever it is.
func TestEachRegister(t *testing.T) {
	small, great, other := alive(integer(3, 5)), alive(integer(3, 9)), integer(7, 7)
	for k := range api.Regs {
		a := put(small, k, other)
		if !regtype.UnderState(small, great) || !regtype.UnderState(a, great) || regtype.UnderState(put(small, k, integer(3, 10)), great) || regtype.UnderState(small, put(great, k, integer(3, 4))) {
			t.Errorf("9.8: UnderState by r%d", k)
		}
		if got := regtype.JoinState(small, a); got != put(small, k, integer(3, 7)) {
			t.Errorf("9.8: JoinState by r%d: %+v", k, got)
		}
		if got := regtype.JoinState(a, small); got != put(small, k, integer(3, 7)) {
			t.Errorf("9.8: JoinState by r%d, the other way: %+v", k, got)
		}
		if got := regtype.WidenState(small, a); got != put(small, k, integer(3, top)) {
			t.Errorf("9.8: WidenState by r%d: %+v", k, got)
		}
		if got := regtype.WidenState(a, small); got != put(small, k, integer(0, 7)) {
			t.Errorf("9.8: WidenState by r%d, the other way: %+v", k, got)
		}
	}
}

// TestRegistersAreTheirOwn: unlike ones do not come into one another.
func TestRegistersAreTheirOwn(t *testing.T) {
	a, b, join, widen := api.State{Live: true}, api.State{Live: true}, api.State{Live: true}, api.State{Live: true}
	right := rightOnes()
	for k := range a.Regs {
		a.Regs[k], b.Regs[k] = right[k%len(right)], right[(5*k+1)%len(right)]
		join.Regs[k], widen.Regs[k] = modelMerged(a.Regs[k], b.Regs[k], false), modelMerged(a.Regs[k], b.Regs[k], true)
	}
	if got := regtype.JoinState(a, b); got != join {
		t.Errorf("9.8: JoinState = %+v, want %+v", got, join)
	}
	if got := regtype.WidenState(a, b); got != widen {
		t.Errorf("9.8: WidenState = %+v, want %+v", got, widen)
	}
}

func TestStatesThatAreNotLive(t *testing.T) {
	none := api.State{}
	for _, r := range append(rightOnes(), wrongOnes()...) {
		for _, away := range []api.State{none, dead(r), dead(integer(3, 5)), put(none, 7, wide())} {
			live := alive(integer(3, 9))
			if !regtype.UnderState(away, live) || !regtype.UnderState(away, none) || !regtype.UnderState(away, dead(integer(0, 0))) || regtype.UnderState(live, away) || regtype.UnderState(api.State{Live: true}, away) {
				t.Errorf("9.8: UnderState with %+v", away)
			}
			for _, got := range []api.State{regtype.JoinState(live, away), regtype.JoinState(away, live), regtype.WidenState(live, away), regtype.WidenState(away, live)} {
				if got != live {
					t.Errorf("9.8: with %+v: %+v, want %+v", away, got, live)
				}
			}
			for _, got := range []api.State{regtype.JoinState(away, dead(r)), regtype.JoinState(none, away), regtype.WidenState(away, away), regtype.WidenState(dead(r), away)} {
				if got != none {
					t.Errorf("9.8: of two that are not Live, one of them %+v: %+v", away, got)
				}
			}
			if regtype.Allows(away, [api.Regs]api.Value{}) {
				t.Errorf("9.8: %+v allows something", away)
			}
		}
	}
}

// TestWrongRegistersAreAny: in a state, too, whether the other one is Live or not.
func TestWrongRegistersAreAny(t *testing.T) {
	live := alive(integer(3, 9))
	for n, w := range wrongOnes() {
		k := n % api.Regs
		a, want := put(live, k, w), put(live, k, nothing())
		for what, got := range map[string]api.State{
			"Join with itself":                regtype.JoinState(a, a),
			"Join with a right one":           regtype.JoinState(a, live),
			"Join of a right one with it":     regtype.JoinState(live, a),
			"Join with one that is not Live":  regtype.JoinState(a, dead(w)),
			"Join of one that is not Live":    regtype.JoinState(dead(w), a),
			"Widen with itself":               regtype.WidenState(a, a),
			"Widen of a right one with it":    regtype.WidenState(live, a),
			"Widen with a right one":          regtype.WidenState(a, live),
			"Widen with one that is not Live": regtype.WidenState(a, api.State{}),
			"Widen of one that is not Live":   regtype.WidenState(api.State{}, a),
		} {
			if got != want {
				t.Errorf("9.1: %s, of one with %+v in r%d: %+v", what, w, k, got)
			}
		}
		if !regtype.UnderState(a, want) || !regtype.UnderState(want, a) || !regtype.UnderState(live, a) || regtype.UnderState(a, live) {
			t.Errorf("9.1: UnderState with %+v in r%d", w, k)
		}
		regs := [api.Regs]api.Value{}
		for i := range regs {
			regs[i] = number(4)
		}
		regs[k] = held(api.Cap{Perms: 255})
		if !regtype.Allows(a, regs) {
			t.Errorf("9.1: Allows with %+v in r%d", w, k)
		}
	}
}

func TestAllows(t *testing.T) {
	live := put(put(alive(integer(3, 5)), 0, nothing()), 15, both())
	var regs [api.Regs]api.Value
	for k := range regs {
		regs[k] = number(4)
	}
	regs[15] = held(d())
	if !regtype.Allows(live, regs) {
		t.Errorf("9.8: %+v does not allow %+v", live, regs)
	}
	if !regtype.Allows(api.State{Live: true}, regs) {
		t.Errorf("9.8: a state that knows nothing does not allow %+v", regs)
	}
	for k := range regs {
		now := regs
		now[k] = number(6)
		if got := regtype.Allows(live, now); got != (k == 0) {
			t.Errorf("9.8: with 6 in r%d: Allows = %t", k, got)
		}
		now[k] = api.Value{Tag: true, N: 4, C: api.Cap{End: 32, Perms: api.Store}}
		if got := regtype.Allows(live, now); got != (k == 0) {
			t.Errorf("9.8: with another capability in r%d: Allows = %t", k, got)
		}
	}
}

// TestStatesAsModelled: register by register as the model says.
func TestStatesAsModelled(t *testing.T) {
	d := rolled(2)
	for range 4000 {
		a, b := d.state(), d.state()
		if d.IntN(2) == 0 {
			for k := range b.Regs {
				b.Regs[k] = modelMerged(a.Regs[k], d.near(a.Regs[k]), false)
			}
		}
		if got, want := regtype.UnderState(a, b), modelStateUnder(a, b); got != want {
			t.Fatalf("9.8: UnderState(%+v, %+v) = %t", a, b, got)
		}
		if got, want := regtype.JoinState(a, b), modelStates(a, b, false); got != want {
			t.Fatalf("9.8: JoinState(%+v, %+v) = %+v, want %+v", a, b, got, want)
		}
		if got, want := regtype.WidenState(a, b), modelStates(a, b, true); got != want {
			t.Fatalf("9.8: WidenState(%+v, %+v) = %+v, want %+v", a, b, got, want)
		}
		var regs [api.Regs]api.Value
		want := a.Live
		for k := range regs {
			regs[k] = d.valueOf(a.Regs[k])
			want = want && modelHas(a.Regs[k], regs[k])
		}
		if got := regtype.Allows(a, regs); got != want {
			t.Fatalf("9.8: Allows(%+v, %+v) = %t", a, regs, got)
		}
	}
}

func modelStateUnder(a api.State, b api.State) bool {
	if !a.Live {
		return true
	}
	for k := range a.Regs {
		if !modelUnder(a.Regs[k], b.Regs[k]) {
			return false
		}
	}
	return b.Live
}

func modelStates(a api.State, b api.State, widen bool) api.State {
	if !a.Live && !b.Live {
		return api.State{}
	}
	if !a.Live {
		a = b
	}
	if !b.Live {
		b = a
	}
	m := api.State{Live: true}
	for k := range m.Regs {
		m.Regs[k] = modelMerged(a.Regs[k], b.Regs[k], widen)
	}
	return m
}
