package regtype

import "paddock/api"

// anySeal stands for a seal that is not known.
const anySeal = -1

// known is r, if it is rightly built; else nothing is known.
func known(r api.RType) api.RType {
	if intBuilt(r) || capBuilt(r) {
		return r
	}
	return api.RType{}
}

func intBuilt(r api.RType) bool {
	return r == api.RType{Kind: api.AnInt, N: r.N} && !empty(r.N)
}

func capBuilt(r api.RType) bool {
	return r.Kind == api.ACap && r.N == api.Span{} &&
		!empty(r.Base) && !empty(r.End) && !empty(r.Point) &&
		among(r.Must, r.May) && among(r.May, api.AllPerms) &&
		anySeal <= r.Seal && r.Seal <= api.MaxSeal
}

// knownState has nothing in it, if it can't be come to.
func knownState(s api.State) api.State {
	if !s.Live {
		return api.State{}
	}
	return api.State{Live: true, Regs: each(s.Regs, known)}
}

func empty(s api.Span) bool { return s.Lo > s.Hi }

// cursors are where a capability of a type may point.
func cursors(t api.Type) api.Span { return api.Span{Lo: t.Lo, Hi: t.Hi} }

func among(p api.Perms, q api.Perms) bool { return p&^q == 0 }

// sealWithin tells whether a seal is the other one, or that one is not known.
func sealWithin(a int, b int) bool { return b == anySeal || a == b }
