package regtype_test

import (
	"testing"

	"paddock/api"
	"paddock/regtype"
)

func TestSure(t *testing.T) {
	of := api.Type{Cap: true, Base: 4, End: 32, Lo: 2, Hi: 8, Perms: api.Load | api.Store, Seal: 3}
	r := regtype.Of(of)
	with := func(change func(r *api.RType)) api.RType { return but(r, change) }
	typed := func(change func(t *api.Type)) api.Type {
		x := of
		change(&x)
		return x
	}
	for _, x := range []struct {
		what string
		r    api.RType
		t    api.Type
		want bool
	}{
		{"an integer", integer(1, 2), api.Type{}, true},
		{"all integers", integer(0, top), api.Type{}, true},
		{"an integer, and a type with something else in it", integer(1, 2), api.Type{Base: 1, Lo: 9, Perms: 255, Seal: -1}, true},
		{"a capability, where integers are", r, api.Type{}, false},
		{"the empty capability, where integers are", api.RType{Kind: api.ACap}, api.Type{}, false},
		{"an integer, where capabilities are", integer(4, 4), of, false},
		{"an integer, where the empty capability is", integer(0, 0), api.Type{Cap: true}, false},

		{"Any of integers", nothing(), api.Type{}, false},
		{"Any of the empty capability", nothing(), api.Type{Cap: true}, false},
		{"Any of a capability", nothing(), of, false},
		{"Any of a type that nothing is of", nothing(), api.Type{Cap: true, Hi: 9, Seal: 16}, false},
		{"Any of a type whose seal is not known", nothing(), api.Type{Cap: true, Hi: 9, Seal: -1}, false},
		{"Any of a type with no permission that is", nothing(), api.Type{Cap: true, Perms: 128}, false},

		{"Of of the type", r, of, true},
		{"it points to one place", with(func(r *api.RType) { r.Point = one(8) }), of, true},
		{"it points to the first place", with(func(r *api.RType) { r.Point = one(2) }), of, true},
		{"it points below", with(func(r *api.RType) { r.Point.Lo = 1 }), of, false},
		{"it points beyond", with(func(r *api.RType) { r.Point.Hi = 9 }), of, false},
		{"it may point anywhere", with(func(r *api.RType) { r.Point = s(0, top) }), of, false},
		{"the base is not one number", with(func(r *api.RType) { r.Base = s(3, 4) }), of, false},
		{"the base is not one number, above", with(func(r *api.RType) { r.Base = s(4, 5) }), of, false},
		{"the end is not one number", with(func(r *api.RType) { r.End = s(31, 32) }), of, false},
		{"another base", r, typed(func(t *api.Type) { t.Base = 5 }), false},
		{"another end", r, typed(func(t *api.Type) { t.End = 31 }), false},
		{"a higher Lo", r, typed(func(t *api.Type) { t.Lo = 3 }), false},
		{"a lower Lo", r, typed(func(t *api.Type) { t.Lo = 0 }), true},
		{"a lower Hi", r, typed(func(t *api.Type) { t.Hi = 7 }), false},
		{"a higher Hi", r, typed(func(t *api.Type) { t.Hi = top }), true},
		{"Lo above Hi", r, typed(func(t *api.Type) { t.Lo, t.Hi = 8, 2 }), false},
		{"Lo above Hi, where it points", with(func(r *api.RType) { r.Point = one(8) }), typed(func(t *api.Type) { t.Lo, t.Hi = 8, 7 }), false},
		{"one permission more in the type", r, typed(func(t *api.Type) { t.Perms |= api.Exec }), false},
		{"one permission less in the type", r, typed(func(t *api.Type) { t.Perms = api.Load }), false},
		{"one that is none in the type", r, typed(func(t *api.Type) { t.Perms |= 128 }), false},
		{"Must has one less", with(func(r *api.RType) { r.Must = api.Load }), of, false},
		{"May has one more", with(func(r *api.RType) { r.May |= api.Exec }), of, false},
		{"both have one more", with(func(r *api.RType) { r.Must, r.May = r.Must|api.Exec, r.May|api.Exec }), of, false},
		{"both have one less", with(func(r *api.RType) { r.Must, r.May = api.Load, api.Load }), of, false},
		{"another seal in the type", r, typed(func(t *api.Type) { t.Seal = 4 }), false},
		{"open, where the type is sealed", with(func(r *api.RType) { r.Seal = 0 }), of, false},
		{"no seal is known", with(func(r *api.RType) { r.Seal = -1 }), of, false},
		{"no seal is known, and the type's is -1", with(func(r *api.RType) { r.Seal = -1 }), typed(func(t *api.Type) { t.Seal = -1 }), false},

		{"the chapter's c", regtype.Exact(c()), api.Type{Cap: true, End: 32, Hi: 8, Perms: api.Load | api.Store}, true},
		{"the chapter's c points elsewhere", regtype.Exact(c()), api.Type{Cap: true, End: 32, Lo: 1, Hi: 8, Perms: api.Load | api.Store}, false},
		{"bounds that can't be are not asked for", regtype.Exact(api.Cap{Base: 9, End: 3}), api.Type{Cap: true, Base: 9, End: 3, Hi: 5}, true},
	} {
		if got := regtype.Sure(x.r, x.t); got != x.want {
			t.Errorf("9.7: %s: Sure(%+v, %+v) = %t", x.what, x.r, x.t, got)
		}
	}
}
