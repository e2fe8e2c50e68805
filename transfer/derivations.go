package transfer

import (
	"paddock/api"
	"paddock/span"
)

// moves is what makes a capability that points further on.
func (x *spot) moves(by operand) effect {
	return func() api.Step {
		b, n := x.b(), by()
		if why := first(aCap(b), anInt(n), unsealed(b)); why != api.Fine {
			return refused(why)
		}
		b.Point = span.Apply(api.ADD, b.Point, n.N)
		return x.lay(b)
	}
}

// narrows is what makes a capability of so many bytes from where it points on.
func (x *spot) narrows(to operand) effect {
	return func() api.Step {
		b, n := x.b(), to()
		if why := first(aCap(b), anInt(n), unsealed(b), reaches(b, 0, n.N.Hi)); why != api.Fine {
			return refused(why)
		}
		b.Base = b.Point
		// Nothing goes round: the higher sum is not above b's end.
		b.End = api.Span{Lo: b.Point.Lo + n.N.Lo, Hi: b.Point.Hi + n.N.Hi}
		return x.lay(b)
	}
}

// keeps makes a capability that keeps the permissions of Imm alone.
func (x *spot) keeps() api.Step {
	b := x.b()
	if why := first(aCap(b), unsealed(b)); why != api.Fine {
		return refused(why)
	}
	b.Must &= api.Perms(x.inst.Imm)
	b.May &= api.Perms(x.inst.Imm)
	return x.lay(b)
}

func (x *spot) seals() api.Step {
	b, by := x.b(), x.c()
	n := by.Point.Lo
	isSeal := single(by.Point) && 1 <= n && n <= api.MaxSeal
	if why := first(aCap(b), aCap(by), unsealed(b), unsealed(by), key(by, api.Seal), unless(isSeal, api.ROtype)); why != api.Fine {
		return refused(why)
	}
	b.Seal = int(n)
	return x.lay(b)
}

func (x *spot) unseals() api.Step {
	b, by := x.b(), x.c()
	fits := by.Point == span.Of(uint64(b.Seal))
	if why := first(aCap(b), aCap(by), unless(b.Seal > 0, api.RSeal), unsealed(by), key(by, api.Unseal), unless(fits, api.ROtype)); why != api.Fine {
		return refused(why)
	}
	b.Seal = 0
	return x.lay(b)
}

// key tells whether a capability may surely be used to seal, or to unseal, with the number to which it points.
func key(by api.RType, p api.Perms) api.Reason {
	return first(may(by, p), reaches(by, 0, 1))
}

// single tells whether a span is one number.
func single(s api.Span) bool { return s.Lo == s.Hi }
