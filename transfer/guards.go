package transfer

import (
	"paddock/api"
	"paddock/regtype"
	"paddock/span"
)

// limits is a guard of a number: it leaves of it what a branch would leave that is taken for A and Imm.
func (x *spot) limits(taken api.Op) effect {
	return func() api.Step {
		a := x.a()
		if why := anInt(a); why != api.Fine {
			return refused(why)
		}
		left, _, can := span.Refine(taken, a.N, x.imm().N)
		switch {
		case !can:
			return x.guarded(api.Fails)
		case left == a.N:
			return x.guarded(api.Holds)
		}
		return x.lay(regtype.Int(left))
	}
}

// decides is a guard of which it must be known whether it holds. (Its verdict is Plain, if that is not known.)
func (x *spot) decides(look func(api.RType) api.Reason, asked func(api.RType, int) api.Verdict) effect {
	return func() api.Step {
		v := asked(x.a(), x.inst.Imm)
		if why := first(look(x.a()), unless(v != api.Plain, api.RGuard)); why != api.Fine {
			return refused(why)
		}
		return x.guarded(v)
	}
}

// guarded is the step of a guard that holds, or fails, for sure.
func (x *spot) guarded(v api.Verdict) api.Step {
	if v == api.Fails {
		return told(ends(), v, 0)
	}
	return told(x.stays(), v, 0)
}

func tagged(a api.RType, _ int) api.Verdict {
	return verdict(a.Kind == api.ACap, a.Kind == api.AnInt)
}

func inside(a api.RType, size int) api.Verdict {
	n := uint64(size)
	holds := a.Seal == 0 && reaches(a, 0, n) == api.Fine
	ahead := a.Point.Hi < a.Base.Lo
	beyond := wholeOf(a.End.Hi).below(wholeOf(a.Point.Lo).plus(wholeOf(n)))
	return verdict(holds, a.Seal > 0 || ahead || beyond)
}

func permitted(a api.RType, perms int) api.Verdict {
	p := api.Perms(perms)
	return verdict(p&^a.Must == 0, p&^a.May != 0)
}

func sealedBy(a api.RType, seal int) api.Verdict {
	return verdict(a.Seal == seal, a.Seal != anySeal && a.Seal != seal)
}

// verdict is that of a guard, by what is surely so.
func verdict(holds bool, fails bool) api.Verdict {
	switch {
	case holds:
		return api.Holds
	case fails:
		return api.Fails
	}
	return api.Plain
}
