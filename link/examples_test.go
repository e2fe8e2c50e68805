package link_test

import (
	"testing"

	"paddock/api"
)

// TestFirstExample: two modules, in either order.
func TestFirstExample(t *testing.T) {
	ab := "depth 1;region 0 16 bytes;region 16 16 bytes;" +
		"comp;li r1 20;call 1;ret;trap 1;comp;add r1 r1 r1;ret;gate main 0 0 -> int;gate twice 1 0 int -> int"
	checkLink(t, "Link(a, b)", module(t, ab, "main twice"), moduleA(t), moduleB(t))
	ba := "depth 1;region 0 16 bytes;region 16 16 bytes;" +
		"comp;add r1 r1 r1;ret;comp;li r1 20;call 0;ret;trap 1;gate twice 0 0 int -> int;gate main 1 0 -> int"
	checkLink(t, "Link(b, a)", module(t, ba, "twice main"), moduleB(t), moduleA(t))

	m := linked(t, "Link(a, b)", moduleA(t), moduleB(t))
	r := ran(t, "Link(a, b)", loaded(t, "Link(a, b)", m.Image), 0, begun{fuel: 100})
	if want := (api.Outcome{End: api.Halted, Value: 40, Pc: 2}); r.Outcome != want {
		t.Errorf("17.3: from main: %+v, want %+v", r.Outcome, want)
	}
	m = linked(t, "Link(b, a)", moduleB(t), moduleA(t))
	r = ran(t, "Link(b, a)", loaded(t, "Link(b, a)", m.Image), 1, begun{fuel: 100})
	if want := (api.Outcome{End: api.Halted, Value: 40, Gate: 1, Pc: 2}); r.Outcome != want {
		t.Errorf("17.3: from main, behind b: %+v, want %+v", r.Outcome, want)
	}
}

// TestSecondExample: what can't be linked.
func TestSecondExample(t *testing.T) {
	a, b, c := moduleA(t), moduleB(t), moduleC(t)
	checkNoLink(t, "Link(a)", api.ErrNeed, 0, a)
	checkNoLink(t, "Link(a, b, b)", api.ErrRegion, 2, a, b, b)
	checkNoLink(t, "Link(a, b, c)", api.ErrNeed, 2, a, b, c)
	checkNoLink(t, "Link()", api.ErrModule, 0)
	checkNoLink(t, "Link of an empty list", api.ErrModule, 0, []api.Module{}...)
}

// TestThirdExample: `twice` of b without a result.
func TestThirdExample(t *testing.T) {
	a, b := moduleA(t), moduleB(t)
	b.Image.Gates[0].Results = nil
	checkNoLink(t, "Link(a, b)", api.ErrMatch, 0, a, b)
	checkNoLink(t, "Link(b, a)", api.ErrMatch, 1, b, a)
}
