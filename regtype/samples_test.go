package regtype_test

import (
	"math"
	"math/rand/v2"

	"paddock/api"
)

const top = ^uint64(0)

func s(lo uint64, hi uint64) api.Span { return api.Span{Lo: lo, Hi: hi} }

func one(n uint64) api.Span { return s(n, n) }

// nothing is known.
func nothing() api.RType { return api.RType{} }

func integer(lo uint64, hi uint64) api.RType { return api.RType{Kind: api.AnInt, N: s(lo, hi)} }

func capability(base, end, point api.Span, must, may api.Perms, seal int) api.RType {
	return api.RType{Kind: api.ACap, Base: base, End: end, Point: point, Must: must, May: may, Seal: seal}
}

// c and d are the capabilities of the chapter's examples.
func c() api.Cap { return api.Cap{End: 32, Perms: api.Load | api.Store} }

func d() api.Cap { return api.Cap{End: 32, Cursor: 8, Perms: api.Load | api.LoadCap} }

// both is what the chapter's second example says of c and d together.
func both() api.RType {
	return capability(one(0), one(32), s(0, 8), api.Load, api.Load|api.Store|api.LoadCap, 0)
}

// wide is a capability of which little is known.
func wide() api.RType {
	return capability(s(8, 16), s(64, 96), s(4, 200), api.Load, api.Load|api.Store|api.Exec, -1)
}

// but is r with something changed in it.
func but(r api.RType, change func(r *api.RType)) api.RType {
	change(&r)
	return r
}

func number(n uint64) api.Value { return api.Value{N: n} }

func held(c api.Cap) api.Value { return api.Value{Tag: true, C: c} }

// rightOnes are rightly built, and stand at the edges of that.
func rightOnes() []api.RType {
	full := s(0, top)
	return []api.RType{
		nothing(),
		integer(0, 0), integer(top, top), integer(0, top), integer(3, 5), integer(3, 9), integer(4, 9), integer(1, top), integer(0, top-1),
		{Kind: api.ACap},
		{Kind: api.ACap, Seal: -1},
		{Kind: api.ACap, Seal: api.MaxSeal},
		capability(full, full, full, 0, api.AllPerms, -1),
		capability(full, full, full, api.AllPerms, api.AllPerms, 7),
		capability(one(top), one(top), one(top), 0, 0, 1),
		capability(one(64), one(9), one(top), api.Load, api.Load, 0),
		capability(one(0), one(32), one(0), api.Load|api.Store, api.Load|api.Store, 0),
		capability(one(0), one(32), one(8), api.Load|api.LoadCap, api.Load|api.LoadCap, 0),
		both(),
		wide(),
		but(wide(), func(r *api.RType) { r.Seal = 0 }),
		but(wide(), func(r *api.RType) { r.Seal = api.MaxSeal }),
		but(wide(), func(r *api.RType) { r.Base = one(8) }),
		but(wide(), func(r *api.RType) { r.End = s(65, 97) }),
		but(wide(), func(r *api.RType) { r.Point = s(4, top) }),
		but(wide(), func(r *api.RType) { r.Must = 0 }),
		but(wide(), func(r *api.RType) { r.Must = r.May }),
		but(wide(), func(r *api.RType) { r.May = api.Load }),
		but(wide(), func(r *api.RType) { r.May = api.AllPerms }),
	}
}

// foreign are changes that lay something into what is not an integer's, or not of what is not known.
func foreign() []func(r *api.RType) {
	return []func(r *api.RType){
		func(r *api.RType) { r.Base = s(0, 1) },
		func(r *api.RType) { r.Base = one(1) },
		func(r *api.RType) { r.Base = s(1, 0) },
		func(r *api.RType) { r.End = s(0, top) },
		func(r *api.RType) { r.End = one(32) },
		func(r *api.RType) { r.End = s(5, 0) },
		func(r *api.RType) { r.Point = s(0, 1) },
		func(r *api.RType) { r.Point = one(top) },
		func(r *api.RType) { r.Point = s(1, 0) },
		func(r *api.RType) { r.May = api.Load },
		func(r *api.RType) { r.May = 128 },
		func(r *api.RType) { r.Must = api.Load },
		func(r *api.RType) { r.Must, r.May = api.AllPerms, api.AllPerms },
		func(r *api.RType) { r.Seal = -1 },
		func(r *api.RType) { r.Seal = 1 },
		func(r *api.RType) { r.Seal = -2 },
		func(r *api.RType) { r.Seal = api.MaxSeal + 1 },
	}
}

// wrongOfCaps are changes by which a capability's knowledge is not rightly built.
func wrongOfCaps() []func(r *api.RType) {
	return []func(r *api.RType){
		func(r *api.RType) { r.N = s(0, 1) },
		func(r *api.RType) { r.N = one(1) },
		func(r *api.RType) { r.N = s(1, 0) },
		func(r *api.RType) { r.N = s(0, top) },
		func(r *api.RType) { r.Base = s(1, 0) },
		func(r *api.RType) { r.Base = s(top, 0) },
		func(r *api.RType) { r.End = s(1, 0) },
		func(r *api.RType) { r.End = s(top, top-1) },
		func(r *api.RType) { r.Point = s(1, 0) },
		func(r *api.RType) { r.Point = s(33, 32) },
		func(r *api.RType) { r.Must, r.May = api.Load, 0 },
		func(r *api.RType) { r.Must, r.May = api.Load|api.Store, api.Load },
		func(r *api.RType) { r.Must, r.May = api.Load, api.Store },
		func(r *api.RType) { r.Must, r.May = 128, api.AllPerms },
		func(r *api.RType) { r.Must, r.May = 0, 128 },
		func(r *api.RType) { r.Must, r.May = 128, 128 },
		func(r *api.RType) { r.Must, r.May = 0, 255 },
		func(r *api.RType) { r.Must, r.May = 255, 255 },
		func(r *api.RType) { r.Seal = -2 },
		func(r *api.RType) { r.Seal = math.MinInt },
		func(r *api.RType) { r.Seal = api.MaxSeal + 1 },
		func(r *api.RType) { r.Seal = math.MaxInt },
		func(r *api.RType) { r.Kind = 3 },
		func(r *api.RType) { r.Kind = -1 },
		func(r *api.RType) { r.Kind = api.Any },
		func(r *api.RType) { r.Kind = api.AnInt },
		func(r *api.RType) { r.Kind = math.MinInt },
		func(r *api.RType) { r.Kind = math.MaxInt },
	}
}

// wrongOnes are not rightly built, each for one reason, as far as that can be.
func wrongOnes() []api.RType {
	l := []api.RType{
		{Kind: 3}, {Kind: -1}, {Kind: 7, N: s(3, 5)}, {Kind: math.MaxInt}, {Kind: math.MinInt, Seal: -1},
		{N: s(0, 1)}, {N: one(1)}, {N: s(1, 0)}, {N: s(0, top)},
		integer(1, 0), integer(top, 0), integer(top, top-1), integer(5, 4),
		but(integer(3, 5), func(r *api.RType) { r.Kind = api.ACap }),
	}
	for _, change := range foreign() {
		l = append(l, but(nothing(), change), but(integer(0, 0), change), but(integer(3, 5), change), but(integer(0, top), change))
	}
	for _, change := range wrongOfCaps() {
		l = append(l, but(both(), change), but(wide(), change))
	}
	return l
}

// values are integers and capabilities at the edges of what is known, with something in what is not meant, too.
func values() []api.Value {
	var l []api.Value
	for _, n := range []uint64{0, 1, 2, 3, 4, 5, 6, 9, 10, 31, 32, top - 1, top} {
		l = append(l, number(n), api.Value{N: n, C: c()})
	}
	for _, x := range []api.Cap{
		{}, c(), d(),
		{Seal: -1}, {Seal: 15}, {Seal: 16}, {Perms: 128}, {Perms: 255},
		{End: 32, Perms: api.Load},
		{End: 32, Perms: api.Store},
		{End: 32, Perms: api.Load | api.Store | api.LoadCap},
		{End: 32, Perms: api.Load | api.Exec},
		{End: 32, Cursor: 9, Perms: api.Load},
		{End: 31, Cursor: 8, Perms: api.Load},
		{Base: 1, End: 32, Perms: api.Load},
		{End: 32, Perms: api.Load, Seal: 1},
		{Base: 8, End: 64, Cursor: 4, Perms: api.Load},
		{Base: 16, End: 96, Cursor: 200, Perms: api.Load | api.Store | api.Exec, Seal: 3},
		{Base: 12, End: 80, Cursor: 201, Perms: api.Load},
		{Base: 12, End: 80, Cursor: 5, Perms: api.Load | api.Unseal},
		{Base: top, End: top, Cursor: top, Perms: 0, Seal: 1},
		{Base: 64, End: 9, Cursor: top, Perms: api.Load},
		{Base: 64, End: 9, Cursor: top, Perms: api.AllPerms, Seal: 7},
	} {
		l = append(l, held(x), api.Value{Tag: true, N: 4, C: x})
	}
	return l
}

// types are those of integers, and of capabilities that can be and that can't.
func types() []api.Type {
	l := []api.Type{
		{},
		{Base: 1, End: 2, Lo: 9, Hi: 3, Perms: 255, Seal: 99},
		{Seal: -1},
		{Cap: true},
		{Cap: true, Hi: top, Seal: -1},
		{Cap: true, Hi: top, Seal: 16},
		{Cap: true, Hi: top, Seal: -2},
		{Cap: true, Hi: top, Perms: 128},
		{Cap: true, Hi: top, Perms: 255},
		{Cap: true, Lo: 1},
		{Cap: true, Lo: 9, Hi: 8, End: 32, Perms: api.Load | api.Store},
		{Cap: true, Base: top, End: top, Lo: top, Hi: top, Seal: 1},
		{Cap: true, Base: 64, End: 9, Lo: top, Hi: top, Perms: api.Load},
		{Cap: true, Hi: top, Perms: api.AllPerms, Seal: 7},
	}
	for _, hi := range []uint64{0, 7, 8, top} {
		for _, seal := range []int{0, 1, api.MaxSeal} {
			for _, p := range []api.Perms{api.Load, api.Load | api.Store, api.Load | api.LoadCap} {
				l = append(l, api.Type{Cap: true, End: 32, Hi: hi, Perms: p, Seal: seal})
			}
		}
	}
	return l
}

// dice makes what may be known, the same in each run of the tests.
type dice struct{ *rand.Rand }

func rolled(seed uint64) dice { return dice{rand.New(rand.NewPCG(seed, 9))} }

// of is one of a list.
func of[T any](d dice, l []T) T { return l[d.IntN(len(l))] }

// number is often one that others are too, so that spans meet.
func (d dice) number() uint64 {
	switch d.IntN(8) {
	case 0:
		return d.Uint64()
	case 1:
		return of(d, []uint64{top, top - 1, 1 << 63, 1 << 32})
	}
	return d.Uint64N(6)
}

// span is seldom empty.
func (d dice) span() api.Span {
	lo, hi := d.number(), d.number()
	switch {
	case d.IntN(4) == 0:
		return one(lo)
	case d.IntN(40) == 0:
		return s(lo, hi)
	}
	return s(min(lo, hi), max(lo, hi))
}

func (d dice) perms() api.Perms {
	if d.IntN(2) == 0 {
		return api.Perms(d.IntN(4))
	}
	return api.Perms(d.IntN(128))
}

func (d dice) seal() int { return of(d, []int{-1, 0, 0, 0, 1, 1, api.MaxSeal}) }

// rtype is most often rightly built.
func (d dice) rtype() api.RType {
	r := nothing()
	switch d.IntN(20) {
	case 0:
	case 1, 2, 3, 4, 5, 6:
		r = api.RType{Kind: api.AnInt, N: d.span()}
	default:
		must := d.perms()
		r = capability(d.span(), d.span(), d.span(), must, must|d.perms(), d.seal())
	}
	if d.IntN(20) == 0 {
		of(d, append(foreign(), wrongOfCaps()...))(&r)
	}
	return r
}

// near is r with one thing changed, so that it is often under r, or r under it.
func (d dice) near(r api.RType) api.RType {
	switch d.IntN(8) {
	case 0:
		r.N = d.span()
	case 1:
		r.Base = d.span()
	case 2:
		r.End = d.span()
	case 3:
		r.Point = d.span()
	case 4:
		r.Must = d.perms() & r.May
	case 5:
		r.May = r.Must | d.perms()
	case 6:
		r.Seal = d.seal()
	}
	return r
}

func (d dice) value() api.Value {
	return api.Value{
		Tag: d.IntN(3) > 0,
		N:   d.number(),
		C:   api.Cap{Base: d.number(), End: d.number(), Cursor: d.number(), Perms: d.perms(), Seal: d.seal()},
	}
}

// valueOf is most often a value that r has.
func (d dice) valueOf(r api.RType) api.Value {
	v := d.value()
	switch r.Kind {
	case api.AnInt:
		v.Tag, v.N = false, d.within(r.N)
	case api.ACap:
		p := r.Must | d.perms()&r.May
		v.Tag, v.C = true, api.Cap{Base: d.within(r.Base), End: d.within(r.End), Cursor: d.within(r.Point), Perms: p, Seal: r.Seal}
		if r.Seal == -1 {
			v.C.Seal = d.IntN(api.MaxSeal + 1)
		}
	}
	return v
}

// within is most often an end of a span.
func (d dice) within(a api.Span) uint64 {
	if a.Lo < a.Hi && d.IntN(4) == 0 {
		return a.Lo + 1 + d.Uint64N(a.Hi-a.Lo)
	}
	return of(d, []uint64{a.Lo, a.Hi})
}

// typeOf is a type, most often one that r may be sure of.
func (d dice) typeOf(r api.RType) api.Type {
	t := api.Type{Cap: r.Kind == api.ACap, Base: r.Base.Lo, End: r.End.Hi, Lo: r.Point.Lo, Hi: r.Point.Hi, Perms: r.May, Seal: r.Seal}
	switch d.IntN(12) {
	case 0:
		t.Cap = !t.Cap
	case 1:
		t.Base = d.number()
	case 2:
		t.End = d.number()
	case 3:
		t.Lo = d.number()
	case 4:
		t.Hi = d.number()
	case 5:
		t.Perms = r.Must
	case 6:
		t.Perms = d.perms()
	case 7:
		t.Seal = d.seal()
	}
	return t
}

// sure is knowledge that is sure of some type.
func (d dice) sure() api.RType {
	p, at := d.perms(), d.span()
	return capability(one(d.number()), one(d.number()), s(min(at.Lo, at.Hi), max(at.Lo, at.Hi)), p, p, d.IntN(api.MaxSeal+1))
}

// state is most often Live.
func (d dice) state() api.State {
	a := api.State{Live: d.IntN(8) > 0}
	for k := range a.Regs {
		a.Regs[k] = d.rtype()
	}
	return a
}
