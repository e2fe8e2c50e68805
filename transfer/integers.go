package transfer

import (
	"paddock/api"
	"paddock/regtype"
	"paddock/span"
)

// lays is what looks at nothing: A has what is given.
func (x *spot) lays(given operand) effect {
	return func() api.Step { return x.lay(given()) }
}

// reckons is what reckons with the integer in B and another one.
func (x *spot) reckons(op api.Op, other operand) effect {
	return func() api.Step {
		b, c := x.b(), other()
		if why := first(anInt(b), anInt(c)); why != api.Fine {
			return refused(why)
		}
		return x.lay(regtype.Int(span.Apply(op, b.N, c.N)))
	}
}

// takes is what needs an integer in A.
func (x *spot) takes(then effect) effect {
	return func() api.Step {
		if why := anInt(x.a()); why != api.Fine {
			return refused(why)
		}
		return then()
	}
}

func anyInteger() api.RType { return regtype.Int(span.Full()) }
