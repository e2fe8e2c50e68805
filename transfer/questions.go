package transfer

import (
	"paddock/api"
	"paddock/regtype"
	"paddock/span"
)

// anySeal stands for a seal that is not known.
const anySeal = -1

// asks is what tells a part of B, which must be known.
func (x *spot) asks(look func(api.RType) api.Reason, part func(api.RType) (uint64, bool)) effect {
	return func() api.Step {
		n, known := part(x.b())
		if why := first(look(x.b()), unless(known, api.RMeta)); why != api.Fine {
			return refused(why)
		}
		return x.answers(n)
	}
}

// answers lays in A an answer that is known ahead of time.
func (x *spot) answers(n uint64) api.Step {
	return told(x.lay(regtype.Int(span.Of(n))), api.Known, n)
}

func base(r api.RType) (uint64, bool) { return r.Base.Lo, single(r.Base) }

func end(r api.RType) (uint64, bool) { return r.End.Lo, single(r.End) }

func perms(r api.RType) (uint64, bool) { return uint64(r.Must), r.Must == r.May }

func seal(r api.RType) (uint64, bool) { return uint64(r.Seal), r.Seal != anySeal }

func tag(r api.RType) (uint64, bool) {
	if r.Kind == api.ACap {
		return 1, true
	}
	return 0, r.Kind == api.AnInt
}

// points tells where B points, which need not be known.
func (x *spot) points() api.Step {
	if why := aCap(x.b()); why != api.Fine {
		return refused(why)
	}
	return x.lay(regtype.Int(x.b().Point))
}

func (x *spot) same() api.Step {
	b, c := x.b(), x.c()
	switch {
	case b.Kind == api.Any || c.Kind == api.Any:
		return refused(api.RMeta)
	case b.Kind == api.AnInt || c.Kind == api.AnInt || unlike(b, c):
		return x.answers(0)
	case !placed(b) || !placed(c):
		return refused(api.RMeta)
	}
	// Both are known but for where they point, and not unlike: so that alone is left to ask.
	s := span.Apply(api.SEQ, b.Point, c.Point)
	if single(s) {
		return x.answers(s.Lo)
	}
	return x.lay(regtype.Int(s))
}

// unlike tells whether two capabilities are surely not the same.
func unlike(b api.RType, c api.RType) bool {
	return apart(b.Base, c.Base) || apart(b.End, c.End) || apart(b.Point, c.Point) ||
		b.Must&^c.May != 0 || c.Must&^b.May != 0 ||
		b.Seal != anySeal && c.Seal != anySeal && b.Seal != c.Seal
}

func apart(a api.Span, b api.Span) bool {
	_, meet := span.Meet(a, b)
	return !meet
}

// placed tells whether all of a capability is known but for where it points.
func placed(r api.RType) bool {
	return single(r.Base) && single(r.End) && r.Must == r.May && r.Seal != anySeal
}
