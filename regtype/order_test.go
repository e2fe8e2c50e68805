package regtype_test

import (
	"testing"

	"paddock/api"
	"paddock/regtype"
)

func TestUnder(t *testing.T) {
	w := wide()
	with := func(change func(r *api.RType)) api.RType { return but(wide(), change) }
	for _, x := range []struct {
		what string
		a, b api.RType
		want bool
	}{
		{"Any under Any", nothing(), nothing(), true},
		{"an integer under Any", integer(3, 5), nothing(), true},
		{"a capability under Any", w, nothing(), true},
		{"Any under all integers", nothing(), integer(0, top), false},
		{"Any under the integer 0", nothing(), integer(0, 0), false},
		{"Any under the empty capability", nothing(), api.RType{Kind: api.ACap}, false},
		{"Any under a capability", nothing(), w, false},

		{"unlike kinds", integer(0, 0), api.RType{Kind: api.ACap}, false},
		{"unlike kinds, the other way", api.RType{Kind: api.ACap}, integer(0, top), false},

		{"the same", integer(3, 5), integer(3, 5), true},
		{"a lower Lo", integer(3, 5), integer(2, 5), true},
		{"a higher Hi", integer(3, 5), integer(3, 6), true},
		{"a higher Lo", integer(3, 5), integer(4, 5), false},
		{"a lower Hi", integer(3, 5), integer(3, 4), false},
		{"side by side", integer(3, 5), integer(6, 9), false},
		{"all numbers", integer(0, top), integer(0, top), true},
		{"the last number", integer(top, top), integer(0, top), true},
		{"all but the last", integer(0, top), integer(0, top-1), false},
		{"all but the first", integer(0, top), integer(1, top), false},

		{"itself", w, w, true},
		{"a base less", with(func(r *api.RType) { r.Base.Lo++ }), w, true},
		{"a base more", with(func(r *api.RType) { r.Base.Lo-- }), w, false},
		{"a base more above", with(func(r *api.RType) { r.Base.Hi++ }), w, false},
		{"an end less", with(func(r *api.RType) { r.End.Hi-- }), w, true},
		{"an end more", with(func(r *api.RType) { r.End.Hi++ }), w, false},
		{"an end more below", with(func(r *api.RType) { r.End.Lo-- }), w, false},
		{"points less far", with(func(r *api.RType) { r.Point.Hi-- }), w, true},
		{"points further", with(func(r *api.RType) { r.Point.Hi++ }), w, false},
		{"points lower", with(func(r *api.RType) { r.Point.Lo-- }), w, false},
		{"Must has more", with(func(r *api.RType) { r.Must |= api.Store }), w, true},
		{"Must has less", with(func(r *api.RType) { r.Must = 0 }), w, false},
		{"Must has another one", with(func(r *api.RType) { r.Must = api.Store }), w, false},
		{"May has less", with(func(r *api.RType) { r.May = api.Load | api.Exec }), w, true},
		{"May has more", with(func(r *api.RType) { r.May |= api.Seal }), w, false},
		{"a seal, where none is known", with(func(r *api.RType) { r.Seal = 0 }), w, true},
		{"the last seal, where none is known", with(func(r *api.RType) { r.Seal = api.MaxSeal }), w, true},
		{"no seal is known, where one is", w, with(func(r *api.RType) { r.Seal = 0 }), false},
		{"the same seal", with(func(r *api.RType) { r.Seal = 4 }), with(func(r *api.RType) { r.Seal = 4 }), true},
		{"another seal", with(func(r *api.RType) { r.Seal = 4 }), with(func(r *api.RType) { r.Seal = 5 }), false},
		{"open under sealed", with(func(r *api.RType) { r.Seal = 0 }), with(func(r *api.RType) { r.Seal = 1 }), false},
		{"sealed under open", with(func(r *api.RType) { r.Seal = 1 }), with(func(r *api.RType) { r.Seal = 0 }), false},
	} {
		if got := regtype.Under(x.a, x.b); got != x.want {
			t.Errorf("9.4: %s: Under(%+v, %+v) = %t", x.what, x.a, x.b, got)
		}
	}
}
