package reach_test

import (
	"slices"
	"testing"

	"paddock/api"
	"paddock/reach"
	"paddock/tagmem"
)

// TestDomIsThePlainOne: lists and memories of the dice.
func TestDomIsThePlainOne(t *testing.T) {
	t.Parallel()
	shown, freed := 0, 0
	for seed := range uint64(20000) {
		d := rolled(seed)
		places, from := d.places(), d.list(d.IntN(7))
		want := plainDom(places, from)
		checkDom(t, "14.3", memory(t, places), from, want)
		if t.Failed() {
			t.Fatalf("14.3: from %v, by %v", from, places)
		}
		bare := plainDom(nil, from)
		if len(want) > len(bare) {
			shown++
		}
		if len(bare) > len(from) {
			freed++
		}
	}
	if shown < 1000 || freed < 1000 {
		t.Errorf("%d times something was shown, %d times opened: the dice are too narrow", shown, freed)
	}
}

func TestWithinIsThePlainOne(t *testing.T) {
	t.Parallel()
	holds := 0
	for seed := range uint64(60000) {
		d := rolled(seed)
		b := d.list(d.IntN(7))
		a := caps(d.less(b))
		for range d.IntN(3) {
			a = append(a, d.less(b))
		}
		want := plainWithin(a, b)
		if want {
			holds++
		}
		checkWithin(t, "14.4", a, b, want)
	}
	if holds < 5000 || holds > 55000 {
		t.Errorf("Within was true %d times: the dice are too narrow", holds)
	}
}

func TestCoversIsThePlainOne(t *testing.T) {
	t.Parallel()
	holds := 0
	for seed := range uint64(40000) {
		d := rolled(seed)
		l := d.list(d.IntN(6))
		x := api.Touch{Store: d.IntN(2) == 0, Addr: d.number(), Size: one(d, 0, 1, 8, 16, 16, 16, d.number())}
		if len(l) > 0 && d.rarely() {
			x.Addr = one(d, l...).Base + d.Uint64N(3)
		} else if len(l) > 0 {
			x.Addr = one(d, l...).Base
		}
		want := plainCovers(l, x)
		if want {
			holds++
		}
		checkCovers(t, "14.5", l, x, want)
	}
	if holds < 2000 || holds > 38000 {
		t.Errorf("Covers was true %d times: the dice are too narrow", holds)
	}
}

// TestWhatFollowsOfDom: it has from, grows with from, and Dom of what it gave is the same.
func TestWhatFollowsOfDom(t *testing.T) {
	t.Parallel()
	for seed := range uint64(5000) {
		d := rolled(seed)
		m, from := memory(t, d.places()), d.list(d.IntN(7))
		got := reach.Dom(m, from...)
		checkRises(t, got)
		checkAllOf(t, "14.7: Dom has from", from, got)
		checkCaps(t, "14.7: Dom of what Dom gave", reach.Dom(m, got...), got)
		more := reach.Dom(m, append(d.list(d.IntN(4)), from...)...)
		checkAllOf(t, "14.7: Dom grows with from", got, more)
		checkWithin(t, "14.7: Dom grows with from", got, more, true)
	}
}

func checkRises(t *testing.T, l []api.Cap) {
	t.Helper()
	for k := 1; k < len(l); k++ {
		if byWords(l[k-1], l[k]) >= 0 {
			t.Fatalf("14.3: not in order, or not each once: %v", l)
		}
	}
}

func checkAllOf(t *testing.T, what string, some []api.Cap, all []api.Cap) {
	t.Helper()
	for _, c := range some {
		if !slices.Contains(all, c) {
			t.Errorf("%s: %v is not in %v", what, c, all)
		}
	}
}

// TestWhatFollowsOfWithin: each list is within itself; what is within a list is within that with more in it; and what is within what can be come to leads to no more.
func TestWhatFollowsOfWithin(t *testing.T) {
	t.Parallel()
	held := 0
	for seed := range uint64(20000) {
		d := rolled(seed)
		b := d.list(d.IntN(7))
		a, more := caps(d.less(b), d.less(b)), d.list(1+d.IntN(4))
		checkWithin(t, "14.7: each list is within itself", b, b, true)
		if reach.Within(a, b) {
			held++
			checkWithin(t, "14.7: with more in it", a, append(slices.Clone(b), more...), true)
			checkWithin(t, "14.7: with more in it", a, append(more, b...), true)
		}
		checkLess(t, d, a, b)
	}
	if held < 1000 {
		t.Errorf("Within was true %d times: the dice are too narrow", held)
	}
}

// checkLess: nothing is gained by something that is within what can be come to.
func checkLess(t *testing.T, d dice, a []api.Cap, b []api.Cap) {
	t.Helper()
	m := memory(t, d.places())
	all := reach.Dom(m, b...)
	if reach.Within(a, all) {
		checkWithin(t, "14.7: nothing is gained", reach.Dom(m, append(a, b...)...), all, true)
	}
}

// TestAllArguments: whatever is handed in, there is an answer.
func TestAllArguments(t *testing.T) {
	t.Parallel()
	numbers := []uint64{0, 1, 15, 16, 65520, 65521, 65536, 1 << 32, 1 << 63, top - 15, top}
	var all []api.Cap
	for _, base := range numbers {
		for _, end := range numbers {
			for _, seal := range []int{-1 << 63, -1, 0, 1, 15, 16, 1<<63 - 1} {
				all = append(all, of(base, end, end-base, 255, seal))
			}
		}
	}
	m := tagmem.NewTagged(api.Image{})
	for k, c := range all {
		m.StoreCap(16*uint64(k), holding(c))
	}
	got := reach.Dom(m, all...)
	for _, c := range all {
		if has(of(0, top, 0, 0, 0), c.Seal) {
			c.Seal = 0
		}
		if !slices.Contains(got, c) {
			t.Errorf("14.3: %v is not come to", c)
		}
	}
	checkWithin(t, "14.7: each list is within itself", all, all, true)
	for _, base := range numbers {
		for _, size := range numbers {
			x := api.Touch{Addr: base, Size: size}
			checkCovers(t, "14.5", all, x, plainCovers(all, x))
		}
	}
}
