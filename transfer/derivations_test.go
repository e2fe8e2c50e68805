package transfer_test

import (
	"testing"

	"paddock/api"
)

func TestMoves(t *testing.T) {
	loose := sealed(wide(3, 9), 0)
	checkGoing(t, "10.5", []going{
		lays("cinci r1 r8 5", nil, capability(0, 32, 5, 5, rw, 0)),
		lays("cinci r1 r8 0", nil, root()),
		lays("cinci r1 r8 -8", nil, capability(0, 32, top-7, top-7, rw, 0)),
		lays("cinci r1 r2 -8", regs{2: capability(0, 32, 8, 9, rw, 0)}, capability(0, 32, 0, 1, rw, 0)),
		lays("cinci r1 r2 -8", regs{2: capability(0, 32, 7, 9, rw, 0)}, capability(0, 32, 0, top, rw, 0)),
		lays("cinci r1 r2 1", regs{2: capability(0, 32, top, top, rw, 0)}, root()),
		lays("cinci r8 r8 2147483647", nil, capability(0, 32, 2147483647, 2147483647, rw, 0)),
		lays("cinci r1 r2 5", regs{2: loose}, but(loose, func(r *api.RType) { r.Point = s(8, 14) })),
		lays("cinci r1 r2 5", regs{2: but(loose, func(r *api.RType) { r.Must, r.May = 0, api.AllPerms })}, but(loose, func(r *api.RType) { r.Point, r.Must, r.May = s(8, 14), 0, api.AllPerms })),

		lays("cinc r1 r8 r2", regs{2: integer(0, 40)}, capability(0, 32, 0, 40, rw, 0)),
		lays("cinc r1 r2 r3", regs{2: capability(0, 32, 4, 9, rw, 0), 3: integer(10, 20)}, capability(0, 32, 14, 29, rw, 0)),
		lays("cinc r1 r2 r3", regs{2: capability(0, 32, 4, 9, rw, 0), 3: integer(top, top)}, capability(0, 32, 3, 8, rw, 0)),
		lays("cinc r1 r2 r3", regs{2: capability(0, 32, 4, 9, rw, 0), 3: integer(top-5, top)}, capability(0, 32, 0, top, rw, 0)),
		lays("cinc r3 r8 r3", regs{3: integer(2, 3)}, capability(0, 32, 2, 3, rw, 0)),
	})
	checkRefusals(t, "10.5", []refusal{
		{"cinci r1 r2 1", nil, api.RCap},
		{"cinci r1 r2 1", regs{2: nothing()}, api.RCap},
		{"cinci r1 r2 1", regs{2: sealed(root(), 2)}, api.RSeal},
		{"cinci r1 r2 1", regs{2: sealed(root(), -1)}, api.RSeal},
		{"cinc r1 r2 r3", nil, api.RCap},
		{"cinc r1 r2 r8", nil, api.RCap},
		{"cinc r1 r8 r8", nil, api.RInt},
		{"cinc r1 r8 r2", regs{2: nothing()}, api.RInt},
		{"cinc r1 r2 r8", regs{2: sealed(root(), 2)}, api.RInt},
		{"cinc r1 r2 r3", regs{2: sealed(root(), 2)}, api.RSeal},
		{"cinc r1 r2 r3", regs{2: sealed(root(), -1)}, api.RSeal},
	})
}

// TestNarrows: n bytes from where it points on; all that it may point to, and all that n may be, must be within.
func TestNarrows(t *testing.T) {
	made := func(base, end, point api.Span) api.RType {
		return api.RType{Kind: api.ACap, Base: base, End: end, Point: point, Must: rw, May: rw}
	}
	high := capability(0, top, top-9, top-4, rw, 0)
	checkGoing(t, "10.5", []going{
		lays("csetbi r1 r8 32", nil, root()),
		lays("csetbi r1 r8 0", nil, capability(0, 0, 0, 0, rw, 0)),
		lays("csetbi r1 r8 5", nil, capability(0, 5, 0, 0, rw, 0)),
		lays("csetbi r1 r2 4", regs{2: capability(0, 32, 8, 12, rw, 0)}, made(s(8, 12), s(12, 16), s(8, 12))),
		lays("csetbi r1 r2 20", regs{2: capability(0, 32, 8, 12, rw, 0)}, made(s(8, 12), s(28, 32), s(8, 12))),
		lays("csetbi r1 r2 0", regs{2: capability(0, 32, 32, 32, rw, 0)}, made(one(32), one(32), one(32))),
		lays("csetbi r1 r2 12", regs{2: wide(8, 12)}, made(s(8, 12), s(20, 24), s(8, 12))),
		lays("csetbi r1 r2 4", regs{2: high}, made(s(top-9, top-4), s(top-5, top), s(top-9, top-4))),
		lays("csetbi r1 r2 4", regs{2: but(wide(8, 12), func(r *api.RType) { r.Must, r.May = 0, api.Seal })}, but(made(s(8, 12), s(12, 16), s(8, 12)), func(r *api.RType) { r.Must, r.May = 0, api.Seal })),

		lays("csetb r1 r8 r2", regs{2: integer(4, 32)}, made(one(0), s(4, 32), one(0))),
		lays("csetb r1 r2 r3", regs{2: capability(0, 32, 8, 12, rw, 0), 3: integer(1, 20)}, made(s(8, 12), s(9, 32), s(8, 12))),
		lays("csetb r1 r2 r3", regs{2: high, 3: integer(0, 4)}, made(s(top-9, top-4), s(top-9, top), s(top-9, top-4))),
		lays("csetb r1 r2 r3", regs{2: capability(0, top, 0, 0, rw, 0), 3: integer(0, top)}, made(one(0), s(0, top), one(0))),
	})
	checkRefusals(t, "10.5", []refusal{
		{"csetbi r1 r2 1", nil, api.RCap},
		{"csetbi r1 r2 1", regs{2: sealed(root(), 1)}, api.RSeal},
		{"csetbi r1 r2 1", regs{2: sealed(root(), -1)}, api.RSeal},
		{"csetbi r1 r8 33", nil, api.RBounds},
		{"csetbi r1 r2 21", regs{2: capability(0, 32, 8, 12, rw, 0)}, api.RBounds},
		{"csetbi r1 r2 0", regs{2: capability(0, 32, 32, 33, rw, 0)}, api.RBounds},
		{"csetbi r1 r2 0", regs{2: capability(8, 32, 7, 9, rw, 0)}, api.RBounds},
		{"csetbi r1 r2 13", regs{2: wide(8, 12)}, api.RBounds},
		{"csetbi r1 r2 1", regs{2: wide(7, 12)}, api.RBounds},
		{"csetbi r1 r2 5", regs{2: high}, api.RBounds},
		{"csetbi r1 r2 65536", regs{2: capability(0, top, top, top, rw, 0)}, api.RBounds},
		{"csetb r1 r2 r8", nil, api.RCap},
		{"csetb r1 r8 r8", nil, api.RInt},
		{"csetb r1 r8 r2", regs{2: nothing()}, api.RInt},
		{"csetb r1 r2 r8", regs{2: sealed(root(), 1)}, api.RInt},
		{"csetb r1 r2 r3", regs{2: sealed(root(), 1), 3: integer(0, top)}, api.RSeal},
		{"csetb r1 r8 r2", regs{2: integer(4, 33)}, api.RBounds},
		{"csetb r1 r8 r2", regs{2: integer(4, top)}, api.RBounds},
		{"csetb r1 r2 r3", regs{2: high, 3: integer(0, 5)}, api.RBounds},
		{"csetb r1 r2 r3", regs{2: high, 3: integer(top, top)}, api.RBounds},
		{"csetb r1 r2 r3", regs{2: capability(0, top, 1, 1, rw, 0), 3: integer(0, top)}, api.RBounds},
	})
}

func TestKeepsPermissions(t *testing.T) {
	loose := but(wide(3, 99), func(r *api.RType) { r.Must, r.May = api.Load|api.Seal, api.Load|api.Seal|api.Store|api.Exec })
	kept := func(must, may api.Perms) api.RType {
		return but(loose, func(r *api.RType) { r.Must, r.May = must, may })
	}
	checkGoing(t, "10.5", []going{
		lays("candp r1 r8 127", nil, root()),
		lays("candp r1 r8 126", nil, capability(0, 32, 0, 0, api.Store, 0)),
		lays("candp r1 r8 0", nil, capability(0, 32, 0, 0, 0, 0)),
		lays("candp r1 r8 4", nil, capability(0, 32, 0, 0, 0, 0)),
		lays("candp r1 r2 127", regs{2: loose}, loose),
		lays("candp r1 r2 3", regs{2: loose}, kept(api.Load, rw)),
		lays("candp r1 r2 48", regs{2: loose}, kept(api.Seal, api.Seal|api.Exec)),
		lays("candp r1 r2 18", regs{2: loose}, kept(0, api.Store|api.Exec)),
	})
	checkRefusals(t, "10.5", []refusal{
		{"candp r1 r2 1", nil, api.RCap},
		{"candp r1 r2 1", regs{2: nothing()}, api.RCap},
		{"candp r1 r2 1", regs{2: sealed(root(), 15)}, api.RSeal},
		{"candp r1 r2 1", regs{2: sealed(root(), -1)}, api.RSeal},
	})
}

// keyTo is a key that may seal and unseal, from 0 to 16, and points there.
func keyTo(lo, hi uint64) api.RType {
	return capability(0, 16, lo, hi, api.Seal|api.Unseal, 0)
}

func TestSeals(t *testing.T) {
	loose := but(wide(3, 99), func(r *api.RType) { r.Must, r.May = 0, api.AllPerms })
	// Narrow enough: it surely begins at 5, and surely ends behind 5.
	narrow := but(keyTo(5, 5), func(r *api.RType) { r.Base, r.End, r.May = s(2, 5), s(6, 9), api.AllPerms })
	for n := uint64(1); n <= api.MaxSeal; n++ {
		checkGoing(t, "10.5", []going{lays("cseal r1 r8 r3", regs{3: keyTo(n, n)}, sealed(root(), int(n)))})
	}
	checkGoing(t, "10.5", []going{
		lays("cseal r1 r2 r3", regs{2: loose, 3: keyTo(5, 5)}, sealed(loose, 5)),
		lays("cseal r1 r8 r3", regs{3: narrow}, sealed(root(), 5)),
		lays("cseal r3 r3 r3", regs{3: keyTo(5, 5)}, sealed(keyTo(5, 5), 5)),
	})
	wrong := func(change func(r *api.RType)) regs { return regs{3: but(keyTo(5, 5), change)} }
	checkRefusals(t, "10.5", []refusal{
		{"cseal r1 r2 r3", nil, api.RCap},
		{"cseal r1 r8 r3", nil, api.RCap},
		{"cseal r1 r3 r8", nil, api.RCap},
		{"cseal r1 r8 r3", regs{3: nothing()}, api.RCap},
		{"cseal r1 r2 r3", regs{2: sealed(root(), 5), 3: keyTo(5, 5)}, api.RSeal},
		{"cseal r1 r2 r3", regs{2: sealed(root(), -1), 3: keyTo(5, 5)}, api.RSeal},
		{"cseal r1 r8 r3", wrong(func(r *api.RType) { r.Seal = 5 }), api.RSeal},
		{"cseal r1 r8 r3", wrong(func(r *api.RType) { r.Seal = -1 }), api.RSeal},
		{"cseal r1 r8 r8", nil, api.RPerm},
		{"cseal r1 r8 r3", wrong(func(r *api.RType) { r.Must = api.Unseal }), api.RPerm},
		{"cseal r1 r8 r3", wrong(func(r *api.RType) { r.Base = s(5, 6) }), api.RBounds},
		{"cseal r1 r8 r3", wrong(func(r *api.RType) { r.Base = s(0, 6) }), api.RBounds},
		{"cseal r1 r8 r3", wrong(func(r *api.RType) { r.End = s(5, 9) }), api.RBounds},
		{"cseal r1 r8 r3", wrong(func(r *api.RType) { r.End = one(0) }), api.RBounds},
		{"cseal r1 r8 r3", regs{3: keyTo(5, 16)}, api.RBounds},
		{"cseal r1 r8 r3", regs{3: keyTo(16, 16)}, api.RBounds},
		{"cseal r1 r8 r3", wrong(func(r *api.RType) { r.Point, r.End = one(top), one(top) }), api.RBounds},
		{"cseal r1 r8 r3", regs{3: keyTo(5, 6)}, api.ROtype},
		{"cseal r1 r8 r3", regs{3: keyTo(0, 15)}, api.ROtype},
		{"cseal r1 r8 r3", regs{3: keyTo(0, 0)}, api.ROtype},
		{"cseal r1 r8 r3", wrong(func(r *api.RType) { r.Point, r.End = one(16), one(17) }), api.ROtype},
		{"cseal r1 r8 r3", wrong(func(r *api.RType) { r.Point, r.End = one(1<<32+5), one(top) }), api.ROtype},
		// The first Reason counts.
		{"cseal r1 r2 r3", regs{2: sealed(root(), 1)}, api.RCap},
		{"cseal r1 r2 r3", regs{2: sealed(root(), 1), 3: sealed(root(), 1)}, api.RSeal},
		{"cseal r1 r8 r3", wrong(func(r *api.RType) { r.Seal, r.Must, r.Point = 1, 0, one(99) }), api.RSeal},
		{"cseal r1 r8 r3", wrong(func(r *api.RType) { r.Must, r.Point = 0, one(99) }), api.RPerm},
		{"cseal r1 r8 r3", wrong(func(r *api.RType) { r.Point = s(98, 99) }), api.RBounds},
	})
}

func TestUnseals(t *testing.T) {
	shut := sealed(root(), 5)
	loose := but(wide(3, 99), func(r *api.RType) { r.Must, r.May, r.Seal = 0, api.AllPerms, 5 })
	narrow := but(keyTo(5, 5), func(r *api.RType) { r.Base, r.End, r.May = s(2, 5), s(6, 9), api.AllPerms })
	for n := uint64(1); n <= api.MaxSeal; n++ {
		checkGoing(t, "10.5", []going{lays("cunseal r1 r2 r3", regs{2: sealed(root(), int(n)), 3: keyTo(n, n)}, root())})
	}
	checkGoing(t, "10.5", []going{
		lays("cunseal r1 r2 r3", regs{2: loose, 3: keyTo(5, 5)}, sealed(loose, 0)),
		lays("cunseal r1 r2 r3", regs{2: shut, 3: narrow}, root()),
		lays("cunseal r2 r2 r3", regs{2: shut, 3: keyTo(5, 5)}, root()),
	})
	wrong := func(change func(r *api.RType)) regs { return regs{2: shut, 3: but(keyTo(5, 5), change)} }
	checkRefusals(t, "10.5", []refusal{
		{"cunseal r1 r4 r3", nil, api.RCap},
		{"cunseal r1 r2 r3", regs{2: shut}, api.RCap},
		{"cunseal r1 r3 r2", regs{2: shut}, api.RCap},
		{"cunseal r1 r8 r3", regs{3: keyTo(5, 5)}, api.RSeal},
		{"cunseal r1 r2 r3", regs{2: sealed(shut, -1), 3: keyTo(5, 5)}, api.RSeal},
		{"cunseal r1 r2 r3", wrong(func(r *api.RType) { r.Seal = 5 }), api.RSeal},
		{"cunseal r1 r2 r3", wrong(func(r *api.RType) { r.Seal = -1 }), api.RSeal},
		{"cunseal r1 r2 r3", wrong(func(r *api.RType) { r.Must = api.Seal }), api.RPerm},
		{"cunseal r1 r2 r3", wrong(func(r *api.RType) { r.Base = s(5, 6) }), api.RBounds},
		{"cunseal r1 r2 r3", wrong(func(r *api.RType) { r.End = s(5, 9) }), api.RBounds},
		{"cunseal r1 r2 r3", wrong(func(r *api.RType) { r.Point = s(5, 16) }), api.RBounds},
		{"cunseal r1 r2 r3", wrong(func(r *api.RType) { r.Point = s(5, 6) }), api.ROtype},
		{"cunseal r1 r2 r3", wrong(func(r *api.RType) { r.Point = s(4, 5) }), api.ROtype},
		{"cunseal r1 r2 r3", wrong(func(r *api.RType) { r.Point = one(4) }), api.ROtype},
		{"cunseal r1 r2 r3", wrong(func(r *api.RType) { r.Point = one(0) }), api.ROtype},
		// The first Reason counts.
		{"cunseal r1 r8 r3", nil, api.RCap},
		{"cunseal r1 r8 r3", regs{3: sealed(root(), 1)}, api.RSeal},
		{"cunseal r1 r2 r3", wrong(func(r *api.RType) { r.Seal, r.Must, r.Point = 1, 0, one(99) }), api.RSeal},
		{"cunseal r1 r2 r3", wrong(func(r *api.RType) { r.Must, r.Point = 0, one(99) }), api.RPerm},
		{"cunseal r1 r2 r3", wrong(func(r *api.RType) { r.Point = s(98, 99) }), api.RBounds},
	})
}
