package regtype_test

import (
	"testing"

	"paddock/api"
	"paddock/regtype"
)

func TestJoinAndWiden(t *testing.T) {
	w := wide()
	with := func(change func(r *api.RType)) api.RType { return but(wide(), change) }
	for _, x := range []struct {
		what              string
		a, b, join, widen api.RType
	}{
		{"both Any", nothing(), nothing(), nothing(), nothing()},
		{"Any and an integer", nothing(), integer(3, 5), nothing(), nothing()},
		{"an integer and Any", integer(3, 5), nothing(), nothing(), nothing()},
		{"Any and a capability", nothing(), w, nothing(), nothing()},
		{"a capability and Any", w, nothing(), nothing(), nothing()},
		{"an integer and a capability", integer(0, 0), w, nothing(), nothing()},
		{"a capability and an integer", api.RType{Kind: api.ACap}, integer(0, 0), nothing(), nothing()},

		{"higher", integer(3, 5), integer(9, 9), integer(3, 9), integer(3, top)},
		{"lower", integer(9, 9), integer(3, 5), integer(3, 9), integer(0, 9)},
		{"lower and higher", integer(5, 6), integer(4, 7), integer(4, 7), integer(0, top)},
		{"within", integer(3, 9), integer(4, 4), integer(3, 9), integer(3, 9)},
		{"the same", integer(3, 9), integer(3, 9), integer(3, 9), integer(3, 9)},
		{"both ends", integer(0, 0), integer(top, top), integer(0, top), integer(0, top)},
		{"both ends, the other way", integer(top, top), integer(0, 0), integer(0, top), integer(0, top)},

		{"the base grows", w, with(func(r *api.RType) { r.Base = s(9, 17) }), with(func(r *api.RType) { r.Base = s(8, 17) }), with(func(r *api.RType) { r.Base = s(8, top) })},
		{"the end grows", w, with(func(r *api.RType) { r.End = s(60, 70) }), with(func(r *api.RType) { r.End = s(60, 96) }), with(func(r *api.RType) { r.End = s(0, 96) })},
		{"it points elsewhere", w, with(func(r *api.RType) { r.Point = s(3, 201) }), with(func(r *api.RType) { r.Point = s(3, 201) }), with(func(r *api.RType) { r.Point = s(0, top) })},
		{"Must and May", w, with(func(r *api.RType) { r.Must, r.May = api.Store, api.Store|api.Seal }),
			with(func(r *api.RType) { r.Must, r.May = 0, api.Load|api.Store|api.Exec|api.Seal }),
			with(func(r *api.RType) { r.Must, r.May = 0, api.Load|api.Store|api.Exec|api.Seal })},
		{"Must of both", with(func(r *api.RType) { r.Must = api.Load | api.Store }), with(func(r *api.RType) { r.Must = api.Load | api.Exec }), w, w},
		{"no seal is known", w, with(func(r *api.RType) { r.Seal = 0 }), w, w},
		{"no seal is known, the other way", with(func(r *api.RType) { r.Seal = 3 }), w, w, w},
		{"unlike seals", with(func(r *api.RType) { r.Seal = 3 }), with(func(r *api.RType) { r.Seal = 4 }), w, w},
		{"sealed and open", with(func(r *api.RType) { r.Seal = api.MaxSeal }), with(func(r *api.RType) { r.Seal = 0 }), w, w},
		{"the same seal", with(func(r *api.RType) { r.Seal = 3 }), with(func(r *api.RType) { r.Seal = 3 }), with(func(r *api.RType) { r.Seal = 3 }), with(func(r *api.RType) { r.Seal = 3 })},
		{"nothing grows", w, with(func(r *api.RType) { r.Base, r.End, r.Point, r.Must = one(8), one(96), one(7), r.May }), w, w},

		{"the chapter's c and d", regtype.Exact(c()), regtype.Exact(d()), both(), but(both(), func(r *api.RType) { r.Point.Hi = top })},
		{"an integer and c", regtype.Int(s(3, 5)), regtype.Exact(c()), nothing(), nothing()},
	} {
		if got := regtype.Join(x.a, x.b); got != x.join {
			t.Errorf("9.5: %s: Join = %+v, want %+v", x.what, got, x.join)
		}
		if got := regtype.Widen(x.a, x.b); got != x.widen {
			t.Errorf("9.6: %s: Widen = %+v, want %+v", x.what, got, x.widen)
		}
	}
}
