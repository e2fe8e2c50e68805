package transfer_test

import (
	"testing"

	"paddock/api"
)

// checkFails asks for guards that surely do not hold: nothing is next, so that they may be the last instruction, too.
func checkFails(t *testing.T, l []refusal) {
	t.Helper()
	for _, c := range l {
		checkStep(t, "10.8: "+c.text, do(c.text, c.r), api.Step{Verdict: api.Fails})
		checkStep(t, "10.8: "+c.text+", the last one", asLast(c.text, c.r), api.Step{Verdict: api.Fails})
	}
}

func fails(text string, r regs) refusal { return refusal{text: text, r: r} }

func TestNumberGuards(t *testing.T) {
	r := regs{1: integer(5, 40)}
	checkGoing(t, "10.8", []going{
		lays("glt r1 32 9", r, integer(5, 31)),
		lays("glt r1 40 9", r, integer(5, 39)),
		lays("glt r1 6 9", r, integer(5, 5)),
		holds("glt r1 41 9", r),
		holds("glt r1 2147483647 255", r),
		holds("glt r0 1 0", nil),
		lays("glt r1 2147483647 0", regs{1: integer(0, top)}, integer(0, 2147483646)),
		lays("gge r1 32 9", r, integer(32, 40)),
		lays("gge r1 6 9", r, integer(6, 40)),
		lays("gge r1 40 9", r, integer(40, 40)),
		holds("gge r1 5 9", r),
		holds("gge r1 0 9", r),
		holds("gge r0 0 0", nil),
		holds("gge r1 0 0", regs{1: integer(0, top)}),
		lays("gge r1 2147483647 0", regs{1: integer(0, top)}, integer(2147483647, top)),
	})
	checkFails(t, []refusal{
		fails("glt r1 5 9", r),
		fails("glt r1 4 9", r),
		fails("glt r1 0 9", r),
		fails("glt r0 0 9", nil),
		fails("glt r1 7 9", regs{1: integer(top, top)}),
		fails("gge r1 41 9", r),
		fails("gge r1 50 9", r),
		fails("gge r0 1 9", nil),
	})
	checkRefusals(t, "10.8", []refusal{
		{"glt r8 5 9", nil, api.RInt},
		{"glt r1 5 9", regs{1: nothing()}, api.RInt},
		{"glt r8 0 9", nil, api.RInt},
		{"gge r8 5 9", nil, api.RInt},
		{"gge r1 0 9", regs{1: nothing()}, api.RInt},
	})
}

func TestTagGuards(t *testing.T) {
	checkGoing(t, "10.8", []going{
		holds("gtag r8 9", nil),
		holds("gtag r1 9", regs{1: sealed(wide(0, top), -1)}),
	})
	checkFails(t, []refusal{fails("gtag r1 9", nil), fails("gtag r1 9", regs{1: integer(0, top)})})
	checkRefusals(t, "10.8", []refusal{{"gtag r1 9", regs{1: nothing()}, api.RGuard}})
}

func TestBoundsGuards(t *testing.T) {
	points := func(lo, hi uint64) regs { return regs{1: capability(8, 32, lo, hi, 0, 0)} }
	// It begins from 4 to 8, and ends from 24 to 32.
	loose := func(lo, hi uint64, seal int) regs { return regs{1: sealed(wide(lo, hi), seal)} }
	checkGoing(t, "10.8", []going{
		holds("gin r8 32 9", nil),
		holds("gin r8 0 9", nil),
		holds("gin r1 24 9", points(8, 8)),
		holds("gin r1 0 9", points(32, 32)),
		holds("gin r1 2 9", points(20, 30)),
		holds("gin r1 4 9", loose(8, 20, 0)),
		holds("gin r1 1 9", regs{1: capability(0, top, 0, top-1, 0, 0)}),
	})
	checkFails(t, []refusal{
		fails("gin r8 33 9", nil),
		fails("gin r1 0 9", points(33, 40)),
		fails("gin r1 3 9", points(30, 31)),
		fails("gin r1 0 9", points(3, 7)),
		fails("gin r1 65536 9", regs{1: capability(0, top, top, top, 0, 0)}),
		fails("gin r1 0 9", loose(0, 3, 0)),
		fails("gin r1 0 9", loose(33, 99, 0)),
		fails("gin r1 13 9", loose(20, 20, 0)),
		// Sealed: whatever else is so.
		fails("gin r1 0 9", loose(8, 20, 1)),
		fails("gin r1 0 9", loose(0, top, 15)),
		// Not known whether it is sealed, but beyond its bounds in any case.
		fails("gin r1 13 9", loose(20, 20, -1)),
		fails("gin r1 0 9", loose(0, 3, -1)),
	})
	checkRefusals(t, "10.8", []refusal{
		{"gin r1 0 9", nil, api.RCap},
		{"gin r1 0 9", regs{1: nothing()}, api.RCap},
		{"gin r1 65536 9", regs{1: integer(0, 0)}, api.RCap},
		{"gin r1 0 9", points(7, 8), api.RGuard},
		{"gin r1 3 9", points(29, 30), api.RGuard},
		{"gin r1 0 9", points(32, 33), api.RGuard},
		{"gin r1 4 9", loose(8, 21, 0), api.RGuard},
		{"gin r1 4 9", loose(7, 20, 0), api.RGuard},
		{"gin r1 0 9", loose(4, 4, 0), api.RGuard},
		{"gin r1 0 9", loose(0, 4, 0), api.RGuard},
		{"gin r1 12 9", loose(20, 20, 0), api.RGuard},
		{"gin r1 0 9", loose(8, 20, -1), api.RGuard},
		{"gin r1 2 9", regs{1: capability(0, top, 0, top-1, 0, 0)}, api.RGuard},
	})
}

func TestPermissionGuards(t *testing.T) {
	odd := regs{1: but(root(), func(r *api.RType) { r.Must, r.May, r.Seal = api.Load, rw, -1 })}
	checkGoing(t, "10.8", []going{
		holds("gperm r8 3 9", nil),
		holds("gperm r8 1 9", nil),
		holds("gperm r8 0 9", nil),
		holds("gperm r1 1 9", odd),
		holds("gperm r1 0 9", odd),
		holds("gperm r1 127 9", regs{1: all(0, 0)}),
	})
	checkFails(t, []refusal{
		fails("gperm r8 4 9", nil),
		fails("gperm r8 7 9", nil),
		fails("gperm r8 127 9", nil),
		fails("gperm r1 4 9", odd),
		fails("gperm r1 6 9", odd),
		fails("gperm r1 5 9", odd),
	})
	checkRefusals(t, "10.8", []refusal{
		{"gperm r1 0 9", nil, api.RCap},
		{"gperm r1 0 9", regs{1: nothing()}, api.RCap},
		{"gperm r1 2 9", odd, api.RGuard},
		{"gperm r1 3 9", odd, api.RGuard},
	})
}

func TestSealGuards(t *testing.T) {
	shut := regs{1: sealed(wide(0, 99), 7)}
	checkGoing(t, "10.8", []going{
		holds("gseal r8 0 9", nil),
		holds("gseal r1 7 9", shut),
		holds("gseal r1 15 9", regs{1: sealed(root(), 15)}),
	})
	checkFails(t, []refusal{
		fails("gseal r8 1 9", nil),
		fails("gseal r1 0 9", shut),
		fails("gseal r1 6 9", shut),
		fails("gseal r1 15 9", shut),
	})
	checkRefusals(t, "10.8", []refusal{
		{"gseal r1 0 9", nil, api.RCap},
		{"gseal r1 0 9", regs{1: nothing()}, api.RCap},
		{"gseal r1 0 9", regs{1: sealed(root(), -1)}, api.RGuard},
		{"gseal r1 15 9", regs{1: sealed(root(), -1)}, api.RGuard},
	})
}
