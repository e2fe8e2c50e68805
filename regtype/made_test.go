package regtype_test

import (
	"math"
	"testing"

	"paddock/api"
	"paddock/regtype"
)

func TestInt(t *testing.T) {
	for _, x := range []struct {
		s    api.Span
		want api.RType
	}{
		{s(3, 5), api.RType{Kind: api.AnInt, N: s(3, 5)}},
		{one(0), api.RType{Kind: api.AnInt}},
		{one(top), integer(top, top)},
		{s(0, top), integer(0, top)},
		{s(1, 0), nothing()},
		{s(top, 0), nothing()},
		{s(top, top-1), nothing()},
	} {
		if got := regtype.Int(x.s); got != x.want {
			t.Errorf("9.2: Int(%v) = %+v, want %+v", x.s, got, x.want)
		}
	}
}

func TestExact(t *testing.T) {
	rw := api.Load | api.Store
	for _, x := range []struct {
		c    api.Cap
		want api.RType
	}{
		{c(), capability(one(0), one(32), one(0), rw, rw, 0)},
		{api.Cap{Base: 5, End: 9, Cursor: 7, Perms: api.Seal, Seal: 3}, capability(one(5), one(9), one(7), api.Seal, api.Seal, 3)},
		{api.Cap{}, api.RType{Kind: api.ACap}},
		{api.Cap{Base: top, End: top, Cursor: top, Perms: api.AllPerms, Seal: api.MaxSeal}, capability(one(top), one(top), one(top), api.AllPerms, api.AllPerms, api.MaxSeal)},
		// A capability that can't be is asked for nothing but what is said here.
		{api.Cap{Base: 9, End: 3, Cursor: 5}, capability(one(9), one(3), one(5), 0, 0, 0)},
		{api.Cap{Seal: -1}, nothing()},
		{api.Cap{Seal: -2}, nothing()},
		{api.Cap{Seal: api.MaxSeal + 1}, nothing()},
		{api.Cap{Seal: math.MaxInt}, nothing()},
		{api.Cap{Seal: math.MinInt}, nothing()},
		{api.Cap{Perms: 128}, nothing()},
		{api.Cap{End: 32, Perms: 255}, nothing()},
	} {
		if got := regtype.Exact(x.c); got != x.want {
			t.Errorf("9.2: Exact(%+v) = %+v, want %+v", x.c, got, x.want)
		}
	}
}

func TestOf(t *testing.T) {
	rw := api.Load | api.Store
	for _, x := range []struct {
		t    api.Type
		want api.RType
	}{
		{api.Type{}, integer(0, top)},
		{api.Type{Base: 7}, integer(0, top)},
		{api.Type{Base: 1, End: 2, Lo: 9, Hi: 3, Perms: 255, Seal: 99}, integer(0, top)},
		{api.Type{Seal: -1}, integer(0, top)},
		{api.Type{Cap: true, End: 32, Hi: 8, Perms: rw}, capability(one(0), one(32), s(0, 8), rw, rw, 0)},
		{api.Type{Cap: true, Base: 1, End: 2, Lo: 3, Hi: 4, Perms: api.Exec, Seal: 5}, capability(one(1), one(2), s(3, 4), api.Exec, api.Exec, 5)},
		{api.Type{Cap: true}, api.RType{Kind: api.ACap}},
		{api.Type{Cap: true, Lo: 8, Hi: 8}, capability(one(0), one(0), one(8), 0, 0, 0)},
		{api.Type{Cap: true, Hi: top, Perms: api.AllPerms, Seal: api.MaxSeal}, capability(one(0), one(0), s(0, top), api.AllPerms, api.AllPerms, api.MaxSeal)},
		{api.Type{Cap: true, Base: 9, End: 3}, capability(one(9), one(3), one(0), 0, 0, 0)},
		{api.Type{Cap: true, Lo: 1}, nothing()},
		{api.Type{Cap: true, Lo: top, Hi: top - 1}, nothing()},
		{api.Type{Cap: true, Seal: -1}, nothing()},
		{api.Type{Cap: true, Seal: -2}, nothing()},
		{api.Type{Cap: true, Seal: api.MaxSeal + 1}, nothing()},
		{api.Type{Cap: true, Seal: math.MinInt}, nothing()},
		{api.Type{Cap: true, Perms: 128}, nothing()},
		{api.Type{Cap: true, Perms: 255}, nothing()},
	} {
		if got := regtype.Of(x.t); got != x.want {
			t.Errorf("9.2: Of(%+v) = %+v, want %+v", x.t, got, x.want)
		}
	}
}

// TestRightOnesStay: what is rightly built is taken as it is.
func TestRightOnesStay(t *testing.T) {
	for _, r := range rightOnes() {
		if j, w := regtype.Join(r, r), regtype.Widen(r, r); j != r || w != r {
			t.Errorf("9.1: of %+v and itself: Join %+v, Widen %+v", r, j, w)
		}
		if regtype.Under(nothing(), r) != (r == nothing()) {
			t.Errorf("9.1: %+v is taken for another one", r)
		}
	}
}

// TestWrongOnesAreAny: each call takes one that is not rightly built for Any.
func TestWrongOnesAreAny(t *testing.T) {
	for _, w := range wrongOnes() {
		for _, r := range append(rightOnes(), w) {
			if j, k := regtype.Join(w, r), regtype.Join(r, w); j != nothing() || k != nothing() {
				t.Errorf("9.1: Join of %+v and %+v: %+v, %+v", w, r, j, k)
			}
			if j, k := regtype.Widen(w, r), regtype.Widen(r, w); j != nothing() || k != nothing() {
				t.Errorf("9.1: Widen of %+v and %+v: %+v, %+v", w, r, j, k)
			}
			if !regtype.Under(r, w) {
				t.Errorf("9.1: %+v is not under %+v", r, w)
			}
			if regtype.Under(w, r) != (r == nothing() || r == w) {
				t.Errorf("9.1: %+v is under %+v", w, r)
			}
		}
		for _, v := range values() {
			if !regtype.Has(w, v) {
				t.Errorf("9.1: %+v has not %+v", w, v)
			}
		}
		for _, of := range types() {
			if regtype.Sure(w, of) {
				t.Errorf("9.1: %+v is sure of %+v", w, of)
			}
		}
	}
}
