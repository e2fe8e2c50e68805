package span_test

import (
	"testing"

	"paddock/api"
	"paddock/span"
)

const top = ^uint64(0)

func s(lo uint64, hi uint64) api.Span { return api.Span{Lo: lo, Hi: hi} }

func of(n uint64) api.Span { return s(n, n) }

func full() api.Span { return s(0, top) }

// none is the empty span that is answered.
func none() api.Span { return s(1, 0) }

func TestFullAndOf(t *testing.T) {
	if got := span.Full(); got != full() {
		t.Errorf("2.1: Full() = %v", got)
	}
	for _, n := range []uint64{0, 1, 7, 1 << 63, top - 1, top} {
		if got := span.Of(n); got != of(n) {
			t.Errorf("2.1: Of(%d) = %v", n, got)
		}
	}
}

func TestHas(t *testing.T) {
	for _, c := range []struct {
		s    api.Span
		n    uint64
		want bool
	}{
		{s(2, 5), 1, false}, {s(2, 5), 2, true}, {s(2, 5), 3, true}, {s(2, 5), 5, true}, {s(2, 5), 6, false},
		{of(4), 3, false}, {of(4), 4, true}, {of(4), 5, false},
		{full(), 0, true}, {full(), 1 << 63, true}, {full(), top, true},
		{s(top-1, top), 0, false}, {s(top-1, top), top, true}, {s(0, 1), top, false},
		{none(), 0, false}, {none(), 1, false}, {s(5, 2), 2, false}, {s(5, 2), 3, false}, {s(5, 2), 5, false},
		{s(top, 0), 0, false}, {s(top, 0), 9, false}, {s(top, 0), top, false},
	} {
		if got := span.Has(c.s, c.n); got != c.want {
			t.Errorf("2.1: Has(%v, %d) = %t", c.s, c.n, got)
		}
	}
}

func TestJoinMeetUnder(t *testing.T) {
	for _, c := range []struct {
		what       string
		a, b       api.Span
		join, meet api.Span
		under      bool
	}{
		{"apart", s(1, 3), s(5, 9), s(1, 9), none(), false},
		{"apart, the other way round", s(5, 9), s(1, 3), s(1, 9), none(), false},
		{"side by side", s(1, 4), s(5, 9), s(1, 9), none(), false},
		{"one number in common", s(1, 5), s(5, 9), s(1, 9), of(5), false},
		{"across one another", s(1, 6), s(4, 9), s(1, 9), s(4, 6), false},
		{"within", s(2, 3), s(1, 9), s(1, 9), s(2, 3), true},
		{"around", s(1, 9), s(2, 3), s(1, 9), s(2, 3), false},
		{"the same", s(1, 9), s(1, 9), s(1, 9), s(1, 9), true},
		{"the same Lo", s(1, 8), s(1, 9), s(1, 9), s(1, 8), true},
		{"one too high", s(1, 9), s(1, 8), s(1, 9), s(1, 8), false},
		{"the same Hi", s(2, 9), s(1, 9), s(1, 9), s(2, 9), true},
		{"one too low", s(0, 9), s(1, 9), s(0, 9), s(1, 9), false},
		{"one number each, the same", of(4), of(4), of(4), of(4), true},
		{"one number each, unlike", of(4), of(6), s(4, 6), none(), false},
		{"both ends of all", of(0), of(top), full(), none(), false},
		{"Full and one number", full(), of(4), full(), of(4), false},
		{"one number and Full", of(top), full(), full(), of(top), true},
		{"Full and Full", full(), full(), full(), full(), true},
		{"empty and another", none(), s(3, 4), s(3, 4), none(), true},
		{"an empty one of other ends", s(9, 2), s(3, 4), s(3, 4), none(), true},
		{"an empty one around all", s(top, 0), s(3, 4), s(3, 4), none(), true},
		{"another and empty", s(3, 4), none(), s(3, 4), none(), false},
		{"empty within its ends", s(3, 4), s(5, 2), s(3, 4), none(), false},
		{"empty and Full", s(8, 1), full(), full(), none(), true},
		{"Full and empty", full(), s(top, 0), full(), none(), false},
		{"empty and empty", s(7, 5), s(9, 2), none(), none(), true},
		{"empty and the empty one", s(4, 3), none(), none(), none(), true},
	} {
		if got := span.Join(c.a, c.b); got != c.join {
			t.Errorf("2.2: %s: Join(%v, %v) = %v, want %v", c.what, c.a, c.b, got, c.join)
		}
		got, ok := span.Meet(c.a, c.b)
		if got != c.meet || ok != (c.meet != none()) {
			t.Errorf("2.2: %s: Meet(%v, %v) = %v, %t, want %v", c.what, c.a, c.b, got, ok, c.meet)
		}
		if got := span.Under(c.a, c.b); got != c.under {
			t.Errorf("2.2: %s: Under(%v, %v) = %t", c.what, c.a, c.b, got)
		}
	}
}

func TestWiden(t *testing.T) {
	for _, c := range []struct {
		what           string
		old, now, want api.Span
	}{
		{"within", s(3, 5), s(4, 5), s(3, 5)},
		{"the same", s(3, 5), s(3, 5), s(3, 5)},
		{"higher", s(3, 5), s(4, 6), s(3, top)},
		{"lower", s(3, 5), s(2, 5), s(0, 5)},
		{"lower and higher", s(3, 5), s(2, 6), full()},
		{"above", s(3, 5), s(9, 9), s(3, top)},
		{"below", s(3, 5), s(0, 1), s(0, 5)},
		{"from 0 on already", s(0, 5), s(0, 4), s(0, 5)},
		{"from 0 on, higher", s(0, 5), s(0, 6), full()},
		{"to the top already", s(3, top), s(9, top), s(3, top)},
		{"to the top, lower", s(3, top), s(2, 9), full()},
		{"one number", of(3), of(3), of(3)},
		{"one number, then another", of(3), of(4), s(3, top)},
		{"Full", full(), s(1, 2), full()},
		{"becomes Full", s(1, 2), full(), full()},
		{"empty, then another", none(), s(3, 4), s(3, 4)},
		{"another, then empty", s(3, 4), s(8, 1), s(3, 4)},
		{"empty of ends around, then another", s(9, 0), s(3, 4), s(3, 4)},
		{"another, then empty of ends around", s(3, 4), s(9, 0), s(3, 4)},
		{"empty, then empty", s(6, 5), s(8, 1), none()},
	} {
		if got := span.Widen(c.old, c.now); got != c.want {
			t.Errorf("2.3: %s: Widen(%v, %v) = %v, want %v", c.what, c.old, c.now, got, c.want)
		}
	}
}
