package regtype

import "paddock/api"

// merge is what both have in common, with spans that are grown so. What is not of a kind is 0 in all of that kind, and stays so: spans that are the same do not grow.
func merge(a api.RType, b api.RType, grow func(api.Span, api.Span) api.Span) api.RType {
	a, b = known(a), known(b)
	if a.Kind != b.Kind {
		return api.RType{}
	}
	m := api.RType{
		Kind:  a.Kind,
		N:     grow(a.N, b.N),
		Base:  grow(a.Base, b.Base),
		End:   grow(a.End, b.End),
		Point: grow(a.Point, b.Point),
		Must:  a.Must & b.Must,
		May:   a.May | b.May,
		Seal:  a.Seal,
	}
	if a.Seal != b.Seal {
		m.Seal = anySeal
	}
	return m
}

func mergeStates(a api.State, b api.State, merge func(api.RType, api.RType) api.RType) api.State {
	switch {
	case !a.Live:
		return knownState(b)
	case !b.Live:
		return knownState(a)
	}
	return api.State{Live: true, Regs: ofTwo(a.Regs, b.Regs, merge)}
}

// each is what is made of each register.
func each[A, B any](regs [api.Regs]A, made func(A) B) [api.Regs]B {
	var l [api.Regs]B
	for k, r := range regs {
		l[k] = made(r)
	}
	return l
}

// ofTwo is what is made of each register and the other one of its number.
func ofTwo[A, B, C any](a [api.Regs]A, b [api.Regs]B, made func(A, B) C) [api.Regs]C {
	var l [api.Regs]C
	for k := range l {
		l[k] = made(a[k], b[k])
	}
	return l
}

// allTwo tells whether something holds of each register and the other one of its number.
func allTwo[A, B any](a [api.Regs]A, b [api.Regs]B, holds func(A, B) bool) bool {
	for k := range a {
		if !holds(a[k], b[k]) {
			return false
		}
	}
	return true
}
