package reach_test

import (
	"slices"

	"paddock/api"
)

// What the chapter's words say, in the plainest way.

// byWords is the order of the chapter.
func byWords(a, b api.Cap) int {
	less := a.Base < b.Base ||
		a.Base == b.Base && a.End < b.End ||
		a.Base == b.Base && a.End == b.End && a.Cursor < b.Cursor ||
		a.Base == b.Base && a.End == b.End && a.Cursor == b.Cursor && a.Perms < b.Perms ||
		a.Base == b.Base && a.End == b.End && a.Cursor == b.Cursor && a.Perms == b.Perms && a.Seal < b.Seal
	switch {
	case a == b:
		return 0
	case less:
		return -1
	}
	return 1
}

// has tells whether a seal lies in a capability's bounds.
func has(c api.Cap, seal int) bool {
	return seal >= 0 && c.Base <= uint64(seal) && uint64(seal) < c.End
}

func opens(by, c api.Cap) bool {
	return by.Seal == 0 && by.Perms&api.Unseal != 0 && c.Seal != 0 && has(by, c.Seal)
}

func makes(by api.Cap, seal int) bool {
	return by.Seal == 0 && by.Perms&api.Seal != 0 && seal >= 1 && seal <= 15 && has(by, seal)
}

func shows(by api.Cap, at uint64) bool {
	return by.Seal == 0 && by.Perms&api.LoadCap != 0 && by.Base <= at && at+16 <= by.End
}

// plainDom is what is come to by places that hold capabilities: it goes round until nothing more comes.
func plainDom(places map[uint64]api.Cap, from []api.Cap) []api.Cap {
	known := map[api.Cap]bool{}
	for _, c := range from {
		known[c] = true
	}
	for size := -1; size != len(known); {
		size = len(known)
		var more []api.Cap
		for c := range known {
			for at, held := range places {
				if shows(c, at) {
					more = append(more, held)
				}
			}
			for shut := range known {
				if opens(c, shut) {
					more = append(more, sealed(shut, 0))
				}
			}
		}
		for _, c := range more {
			known[c] = true
		}
	}
	var l []api.Cap
	for c := range known {
		l = append(l, c)
	}
	slices.SortFunc(l, byWords)
	return l
}

func plainWithin(a, b []api.Cap) bool {
	for _, x := range a {
		isMade := x.Seal == 0 || slices.ContainsFunc(b, func(by api.Cap) bool { return makes(by, x.Seal) })
		if !slices.ContainsFunc(b, func(y api.Cap) bool {
			isOpened := y.Seal == 0 || slices.ContainsFunc(b, func(by api.Cap) bool { return opens(by, y) })
			return y.Base <= x.Base && x.End <= y.End && x.Perms&^y.Perms == 0 && (y.Seal == x.Seal || isOpened && isMade)
		}) {
			return false
		}
	}
	return true
}

func plainCovers(l []api.Cap, x api.Touch) bool {
	return slices.ContainsFunc(l, func(c api.Cap) bool {
		return c.Seal == 0 && isAll(c, x) && c.Perms&permFor(x) != 0
	})
}

// atLo is the capability of a type that points to Lo.
func atLo(t api.Type) api.Cap { return of(t.Base, t.End, t.Lo, t.Perms, t.Seal) }

// plainGrant is what a compartment of a right program is granted.
func plainGrant(m api.Image, comp int) []api.Cap {
	var types []api.Type
	from := caps(codeOf(uint64(comp), uint64(len(m.Comps[comp].Code))))
	for _, r := range m.Comps[comp].Roots {
		from = append(from, r.Cap)
	}
	for n, g := range m.Gates {
		if g.Comp == comp {
			types = append(types, g.Args...)
		}
		if slices.ContainsFunc(m.Comps[comp].Code, func(i api.Inst) bool { return i.Op == api.CALL && i.Imm == n }) {
			types = append(types, g.Results...)
		}
	}
	for _, t := range types {
		if t.Cap {
			from = append(from, atLo(t))
		}
	}
	places := map[uint64]api.Cap{}
	for _, r := range m.Regions {
		for n, s := range r.Slots {
			places[r.Base+16*uint64(n)] = atLo(s.Type)
		}
	}
	return plainDom(places, from)
}
