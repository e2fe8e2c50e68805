package regtype_test

import (
	"testing"

	"paddock/api"
	"paddock/regtype"
)

func TestHas(t *testing.T) {
	w := wide()
	open := but(w, func(r *api.RType) { r.Seal = 0 })
	in := api.Cap{Base: 8, End: 64, Cursor: 4, Perms: api.Load}
	with := func(change func(c *api.Cap)) api.Value {
		x := in
		change(&x)
		return held(x)
	}
	for _, x := range []struct {
		r    api.RType
		v    api.Value
		want bool
	}{
		{nothing(), number(0), true},
		{nothing(), number(top), true},
		{nothing(), held(c()), true},
		{nothing(), held(api.Cap{Base: 9, Perms: 255, Seal: -7}), true},

		{integer(3, 5), number(2), false},
		{integer(3, 5), number(3), true},
		{integer(3, 5), number(4), true},
		{integer(3, 5), number(5), true},
		{integer(3, 5), number(6), false},
		{integer(3, 5), api.Value{N: 4, C: c()}, true},
		{integer(3, 5), api.Value{Tag: true, N: 4}, false},
		{integer(0, 0), number(0), true},
		{integer(0, 0), number(1), false},
		{integer(0, 0), held(api.Cap{}), false},
		{integer(0, top), number(top), true},
		{integer(0, top), held(c()), false},

		{w, held(in), true},
		{w, api.Value{Tag: true, N: 77, C: in}, true},
		{w, api.Value{C: in}, false},
		{w, number(8), false},
		{w, with(func(c *api.Cap) { c.Base = 7 }), false},
		{w, with(func(c *api.Cap) { c.Base = 16 }), true},
		{w, with(func(c *api.Cap) { c.Base = 17 }), false},
		{w, with(func(c *api.Cap) { c.End = 63 }), false},
		{w, with(func(c *api.Cap) { c.End = 96 }), true},
		{w, with(func(c *api.Cap) { c.End = 97 }), false},
		{w, with(func(c *api.Cap) { c.Cursor = 3 }), false},
		{w, with(func(c *api.Cap) { c.Cursor = 200 }), true},
		{w, with(func(c *api.Cap) { c.Cursor = 201 }), false},
		{w, with(func(c *api.Cap) { c.Perms = 0 }), false},
		{w, with(func(c *api.Cap) { c.Perms = api.Store }), false},
		{w, with(func(c *api.Cap) { c.Perms = api.Load | api.Store | api.Exec }), true},
		{w, with(func(c *api.Cap) { c.Perms = api.Load | api.Seal }), false},
		{w, with(func(c *api.Cap) { c.Perms = api.Load | 128 }), false},
		{w, with(func(c *api.Cap) { c.Seal = api.MaxSeal }), true},
		{w, with(func(c *api.Cap) { c.Seal = -1 }), true},
		{w, with(func(c *api.Cap) { c.Seal = 99 }), true},
		{open, held(in), true},
		{open, with(func(c *api.Cap) { c.Seal = 1 }), false},
		{open, with(func(c *api.Cap) { c.Seal = -1 }), false},
	} {
		if got := regtype.Has(x.r, x.v); got != x.want {
			t.Errorf("9.3: Has(%+v, %+v) = %t", x.r, x.v, got)
		}
	}
}
