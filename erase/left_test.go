package erase_test

import (
	"testing"

	"paddock/api"
	"paddock/erase"
)

// TestValue: of an integer itself, of a capability where it points; what is not meant is not looked at.
func TestValue(t *testing.T) {
	c := api.Cap{Base: 64, End: 128, Cursor: 96, Perms: api.Load, Seal: 3}
	far := api.Cap{Base: 64, End: 128, Cursor: top}
	for _, x := range []struct {
		v    api.Value
		want uint64
	}{
		{api.Value{}, 0},
		{api.Value{N: 5}, 5},
		{api.Value{N: top}, top},
		{api.Value{N: 5, C: c}, 5},
		{api.Value{C: c}, 0},
		{api.Value{Tag: true}, 0},
		{api.Value{Tag: true, C: c}, 96},
		{api.Value{Tag: true, N: 5, C: c}, 96},
		{api.Value{Tag: true, N: 5}, 0},
		{api.Value{Tag: true, C: far}, top},
		{api.Value{Tag: true, C: api.Cap{Base: 9, End: 4, Cursor: 77, Perms: 255, Seal: -1}}, 77},
	} {
		if got := erase.Value(x.v); got != x.want {
			t.Errorf("12.1: Value(%+v) is %d, want %d", x.v, got, x.want)
		}
	}
}

// TestSnap: the gate, the instruction and the depth, and each register, whatever it holds.
func TestSnap(t *testing.T) {
	whole, want := api.Snap{Gate: 3, Pc: 399, Depth: 16}, api.FSnap{Gate: 3, Pc: 399, Depth: 16}
	for k := range whole.Regs {
		one, left := api.Snap{}, api.FSnap{}
		n := uint64(100 + k)
		for _, v := range []api.Value{
			{N: n},
			{N: n, C: api.Cap{Cursor: 7}},
			{Tag: true, C: api.Cap{Base: 1, End: 2, Cursor: n, Perms: rw, Seal: 4}},
			{Tag: true, N: 7, C: api.Cap{Cursor: n}},
		} {
			one.Regs[k], left.Regs[k] = v, n
			if got := erase.Snap(one); got != left {
				t.Errorf("12.1: r%d is %+v: Snap is %+v", k, v, got)
			}
		}
		whole.Regs[k], want.Regs[k] = api.Value{Tag: k%2 == 0, N: uint64(k), C: api.Cap{Cursor: uint64(k)}}, uint64(k)
	}
	if got := erase.Snap(whole); got != want {
		t.Errorf("12.1: Snap(%+v) is %+v", whole, got)
	}
	for _, s := range []api.Snap{{}, {Gate: 1}, {Pc: 2}, {Depth: 3}, {Gate: -1, Pc: -2, Depth: -3}} {
		if got := erase.Snap(s); got != (api.FSnap{Gate: s.Gate, Pc: s.Pc, Depth: s.Depth}) {
			t.Errorf("12.1: Snap(%+v) is %+v", s, got)
		}
	}
}
