package transfer_test

import (
	"testing"

	"paddock/api"
)

func TestQuestions(t *testing.T) {
	odd := but(capability(8, 64, 3, 9, api.Load, 7), func(r *api.RType) { r.May = rw })
	shut := capability(8, 64, 3, 9, api.Load|api.Unseal, 7)
	checkGoing(t, "10.6", []going{
		lays("caddr r1 r8", nil, integer(0, 0)),
		lays("caddr r1 r2", regs{2: shut}, integer(3, 9)),
		lays("caddr r2 r2", regs{2: sealed(wide(3, top), -1)}, integer(3, top)),

		tells("cbase r1 r8", nil, 0),
		tells("cbase r1 r2", regs{2: shut}, 8),
		tells("cbase r1 r2", regs{2: but(wide(0, 9), func(r *api.RType) { r.Base, r.Seal, r.Must = one(top), -1, 0 })}, top),
		tells("cend r1 r8", nil, 32),
		tells("cend r8 r8", nil, 32),
		tells("cend r1 r2", regs{2: shut}, 64),
		tells("cend r1 r2", regs{2: but(wide(0, 9), func(r *api.RType) { r.End, r.Seal, r.Must = one(top), -1, 0 })}, top),
		tells("cperm r1 r8", nil, 3),
		tells("cperm r1 r2", regs{2: shut}, 65),
		tells("cperm r1 r2", regs{2: sealed(wide(0, 9), -1)}, 3),
		tells("cperm r1 r2", regs{2: but(shut, func(r *api.RType) { r.Must, r.May = 0, 0 })}, 0),
		tells("csealed r1 r8", nil, 0),
		tells("csealed r1 r2", regs{2: shut}, 7),
		tells("csealed r1 r2", regs{2: sealed(odd, 15)}, 15),
		tells("ctag r1 r8", nil, 1),
		tells("ctag r1 r2", nil, 0),
		tells("ctag r1 r2", regs{2: sealed(wide(0, 9), -1)}, 1),
		tells("ctag r2 r2", regs{2: integer(0, top)}, 0),
	})
	checkRefusals(t, "10.6", []refusal{
		{"caddr r1 r2", nil, api.RCap},
		{"caddr r1 r2", regs{2: nothing()}, api.RCap},
		{"cbase r1 r2", nil, api.RCap},
		{"cbase r1 r2", regs{2: nothing()}, api.RCap},
		{"cbase r1 r2", regs{2: but(root(), func(r *api.RType) { r.Base = s(0, 1) })}, api.RMeta},
		{"cend r1 r2", nil, api.RCap},
		{"cend r1 r2", regs{2: but(root(), func(r *api.RType) { r.End = s(31, 32) })}, api.RMeta},
		{"cperm r1 r2", nil, api.RCap},
		{"cperm r1 r2", regs{2: odd}, api.RMeta},
		{"csealed r1 r2", nil, api.RCap},
		{"csealed r1 r2", regs{2: sealed(root(), -1)}, api.RMeta},
		{"ctag r1 r2", regs{2: nothing()}, api.RMeta},
	})
}

// sameCase is what CSAME tells of two, either way round.
type sameCase struct {
	b, c api.RType
	n    uint64
}

func TestSurelyUnlike(t *testing.T) {
	loose := but(sealed(wide(0, 99), -1), func(r *api.RType) { r.Must, r.May = 0, api.AllPerms })
	l := []sameCase{
		{integer(3, 3), root(), 0},
		{integer(3, 3), integer(3, 3), 0},
		{integer(0, top), loose, 0},
		// An integer's knowledge has noughts where this capability has them.
		{integer(0, 0), capability(0, 0, 0, 0, 0, 0), 0},
		{integer(0, 0), but(sealed(capability(0, 0, 0, 9, 0, 0), -1), func(r *api.RType) { r.May = rw }), 0},
		{root(), sealed(root(), 1), 0},
		{sealed(loose, 1), sealed(loose, 2), 0},
		{sealed(loose, 0), sealed(loose, 15), 0},
		{root(), capability(0, 32, 1, 9, rw, 0), 0},
		{root(), capability(0, 32, 0, 0, api.Load, 0), 0},
		{root(), capability(0, 31, 0, 0, rw, 0), 0},
		{root(), capability(1, 32, 0, 0, rw, 0), 0},
	}
	// One thing is surely unlike, all else is not known.
	for _, change := range []func(r *api.RType){
		func(r *api.RType) { r.Base = one(3) },
		func(r *api.RType) { r.Base = s(9, top) },
		func(r *api.RType) { r.End = s(0, 23) },
		func(r *api.RType) { r.End = one(33) },
		func(r *api.RType) { r.Point = one(100) },
		func(r *api.RType) { r.Point = s(100, top) },
	} {
		l = append(l, sameCase{loose, but(loose, change), 0})
	}
	for k := range 7 {
		p := api.Perms(1) << k
		without, has := but(loose, func(r *api.RType) { r.May = api.AllPerms &^ p }), but(loose, func(r *api.RType) { r.Must = p })
		l = append(l, sameCase{without, has, 0})
	}
	checkSame(t, l)
}

func TestSurelyAlike(t *testing.T) {
	shut := capability(8, 64, 3, 3, api.Load|api.Exec, 7)
	checkSame(t, []sameCase{
		{root(), root(), 1},
		{shut, shut, 1},
		{capability(top, 0, top, top, 0, 15), capability(top, 0, top, top, 0, 15), 1},
	})
	for _, c := range []sameCase{
		{b: root(), c: capability(0, 32, 0, 9, rw, 0)},
		{b: capability(0, 32, 9, 12, rw, 0), c: capability(0, 32, 0, 9, rw, 0)},
		{b: sealed(capability(0, 32, 0, top, rw, 0), 3), c: sealed(root(), 3)},
	} {
		r := regs{2: c.b, 3: c.c}
		checkGoing(t, "10.6", []going{
			lays("csame r1 r2 r3", r, integer(0, 1)),
			lays("csame r3 r3 r2", r, integer(0, 1)),
			lays("csame r8 r2 r3", r, integer(0, 1)),
		})
	}
	// One register is not surely the same as itself: where it points is not known.
	checkGoing(t, "10.6", []going{
		tells("csame r1 r8 r8", nil, 1),
		lays("csame r1 r2 r2", regs{2: capability(0, 32, 0, 9, rw, 0)}, integer(0, 1)),
	})
}

func checkSame(t *testing.T, l []sameCase) {
	t.Helper()
	for _, c := range l {
		r := regs{2: c.b, 3: c.c}
		checkGoing(t, "10.6", []going{
			tells("csame r1 r2 r3", r, c.n),
			tells("csame r1 r3 r2", r, c.n),
			tells("csame r2 r2 r3", r, c.n),
		})
	}
}

// TestNotSurelySame: neither alike nor unlike for sure.
func TestNotSurelySame(t *testing.T) {
	loose := but(sealed(wide(0, 99), -1), func(r *api.RType) { r.Must, r.May = 0, api.AllPerms })
	l := []sameCase{
		{b: nothing(), c: root()},
		{b: nothing(), c: integer(3, 3)},
		{b: nothing(), c: nothing()},
		{b: loose, c: loose},
	}
	for _, change := range []func(r *api.RType){
		func(r *api.RType) { r.Base = s(0, 1) },
		func(r *api.RType) { r.End = s(32, 33) },
		func(r *api.RType) { r.End = s(0, 32) },
		func(r *api.RType) { r.Must = api.Load },
		func(r *api.RType) { r.Must = 0 },
		func(r *api.RType) { r.May = api.AllPerms },
		func(r *api.RType) { r.Seal = -1 },
	} {
		odd := but(root(), change)
		l = append(l, sameCase{b: root(), c: odd}, sameCase{b: odd, c: odd}, sameCase{b: odd, c: but(odd, func(r *api.RType) { r.Point = s(0, 4) })})
	}
	for _, c := range l {
		r := regs{2: c.b, 3: c.c}
		checkRefusals(t, "10.6", []refusal{
			{"csame r1 r2 r3", r, api.RMeta},
			{"csame r1 r3 r2", r, api.RMeta},
		})
	}
}
