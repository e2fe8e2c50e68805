// Package capword derives capabilities from one another. See doc/01-capword.md.
package capword

import "paddock/api"

// maxEnd is the greatest address at which a rightly built capability may end.
const maxEnd = 1 << 32

// Right tells whether a capability is one that can be.
func Right(c api.Cap) bool {
	return c.Base <= c.End && c.End <= maxEnd && hasAll(api.AllPerms, c.Perms) && 0 <= c.Seal && c.Seal <= api.MaxSeal
}

// SetBounds is a capability from where one points on, of n bytes.
func SetBounds(c api.Cap, n uint64) (api.Cap, api.Fault) {
	if !open(c) {
		return api.Cap{}, api.FSeal
	}
	if !holds(c, c.Cursor, n) {
		return api.Cap{}, api.FBounds
	}
	c.Base, c.End = c.Cursor, c.Cursor+n
	return c, api.NoFault
}

// AndPerm is a capability with no other permissions than these.
func AndPerm(c api.Cap, p api.Perms) (api.Cap, api.Fault) {
	if !open(c) {
		return api.Cap{}, api.FSeal
	}
	c.Perms &= p
	return c, api.NoFault
}

// Inc is a capability that points n further on.
func Inc(c api.Cap, n uint64) (api.Cap, api.Fault) {
	if !open(c) {
		return api.Cap{}, api.FSeal
	}
	c.Cursor += n
	return c, api.NoFault
}

// SealBy is a capability sealed by another one.
func SealBy(c api.Cap, by api.Cap) (api.Cap, api.Fault) {
	if !open(c) {
		return api.Cap{}, api.FSeal
	}
	if f := asKey(by, api.Seal); f != api.NoFault {
		return api.Cap{}, f
	}
	if by.Cursor < 1 || by.Cursor > api.MaxSeal {
		return api.Cap{}, api.FOtype
	}
	c.Seal = int(by.Cursor)
	return c, api.NoFault
}

// UnsealBy is a capability unsealed by another one.
func UnsealBy(c api.Cap, by api.Cap) (api.Cap, api.Fault) {
	if open(c) {
		return api.Cap{}, api.FSeal
	}
	if f := asKey(by, api.Unseal); f != api.NoFault {
		return api.Cap{}, f
	}
	// A seal below 0 would go round into a number that a cursor can be.
	if c.Seal < 0 || by.Cursor != uint64(c.Seal) {
		return api.Cap{}, api.FOtype
	}
	c.Seal = 0
	return c, api.NoFault
}

// Access tells whether size bytes, off from where a capability points, may be used for something.
func Access(c api.Cap, off uint64, size uint64, p api.Perms) api.Fault {
	switch {
	case !open(c):
		return api.FSeal
	case !hasAll(c.Perms, p):
		return api.FPerm
	case !holds(c, c.Cursor+off, size):
		return api.FBounds
	}
	return api.NoFault
}

// Under tells whether a capability gives no more than another one.
func Under(a api.Cap, b api.Cap) bool {
	return a.Base >= b.Base && a.End <= b.End && hasAll(b.Perms, a.Perms) && a.Seal == b.Seal
}

func open(c api.Cap) bool { return c.Seal == 0 }

func hasAll(has api.Perms, p api.Perms) bool { return p&^has == 0 }

// holds tells whether size bytes from an address on are within a capability. It asks what is left up to End, as the sum of address and size could go round.
func holds(c api.Cap, addr uint64, size uint64) bool {
	return addr >= c.Base && addr <= c.End && size <= c.End-addr
}

// asKey tells what hinders a capability from naming, by its cursor, a seal to close or to open with.
func asKey(by api.Cap, p api.Perms) api.Fault {
	switch {
	case !open(by):
		return api.FSeal
	case !hasAll(by.Perms, p):
		return api.FPerm
	case by.Cursor < by.Base || by.Cursor >= by.End:
		return api.FBounds
	}
	return api.NoFault
}
