package span_test

import (
	"testing"

	"paddock/api"
	"paddock/span"
)

func TestApplySumsAndProducts(t *testing.T) {
	expectApply(t, []applied{
		{api.ADD, s(1, 2), s(10, 20), s(11, 22)},
		{api.ADD, of(3), of(4), of(7)},
		{api.ADD, of(top), of(1), of(0)},
		{api.ADD, of(top), s(1, 2), s(0, 1)},
		{api.ADD, s(1, 2), of(top), s(0, 1)},
		{api.ADD, s(top-1, top), s(1, 2), full()},
		{api.ADD, s(top-1, top), s(2, 5), s(0, 4)},
		{api.ADD, s(0, top-1), of(1), s(1, top)},
		{api.ADD, s(0, top), of(1), full()},
		{api.ADD, full(), of(0), full()},
		{api.ADD, full(), full(), full()},
		{api.ADD, s(1<<63, top), s(1<<63, top), s(0, top-1)},

		{api.SUB, s(0, 3), of(5), s(top-4, top-1)},
		{api.SUB, s(5, 9), s(2, 5), s(0, 7)},
		{api.SUB, s(5, 9), s(2, 6), full()},
		{api.SUB, s(0, 4), s(5, 6), s(top-5, top)},
		{api.SUB, s(0, 5), s(5, 6), full()},
		{api.SUB, of(5), s(5, 6), full()},
		{api.SUB, of(1), of(2), of(top)},
		{api.SUB, of(9), of(2), of(7)},
		{api.SUB, full(), of(0), full()},
		{api.SUB, of(top), full(), full()},
		{api.SUB, of(0), s(1, top), s(1, top)},

		{api.MUL, s(2, 3), s(4, 5), s(8, 15)},
		{api.MUL, s(0, 1<<32), s(0, 1<<31), s(0, 1<<63)},
		{api.MUL, s(0, 1<<32), s(0, 1<<32), full()},
		{api.MUL, s(1, 1<<32-1), s(1, 1<<32+1), s(1, top)},
		{api.MUL, of(1 << 63), of(2), of(0)},
		{api.MUL, of(1 << 63), of(3), of(1 << 63)},
		{api.MUL, of(1 << 63), s(1, 2), full()},
		{api.MUL, of(0), full(), of(0)},
		{api.MUL, full(), s(0, 1), full()},
		{api.MUL, s(7, top), of(1), s(7, top)},
	})
}

func TestApplyBits(t *testing.T) {
	expectApply(t, []applied{
		{api.AND, s(4, 12), s(3, 9), s(0, 9)},
		{api.AND, s(3, 9), s(4, 12), s(0, 9)},
		{api.AND, of(12), of(10), of(8)},
		{api.AND, of(12), s(12, 13), s(0, 12)},
		{api.AND, full(), of(6), s(0, 6)},

		{api.OR, s(1, 4), s(2, 9), s(2, 15)},
		{api.OR, s(2, 9), s(1, 4), s(2, 15)},
		{api.OR, of(12), of(10), of(14)},
		{api.OR, of(0), s(0, 16), s(0, 31)},
		{api.OR, s(0, 15), of(0), s(0, 15)},
		{api.OR, s(3, 6), of(7), s(7, 7)},
		{api.OR, s(0, 1), of(0), s(0, 1)},
		{api.OR, s(0, 1<<63), of(1), s(1, top)},
		{api.OR, s(0, 1<<63-1), of(1), s(1, 1<<63-1)},
		{api.OR, full(), full(), full()},

		{api.XOR, s(5, 6), s(1, 8), s(0, 15)},
		{api.XOR, s(1, 8), s(5, 6), s(0, 15)},
		{api.XOR, s(5, 6), of(7), s(0, 7)},
		{api.XOR, of(5), of(1), of(4)},
		{api.XOR, of(5), of(5), of(0)},
		{api.XOR, s(9, 10), s(0, top-1), full()},
	})
}

func TestApplyMoves(t *testing.T) {
	expectApply(t, []applied{
		{api.SHL, s(1, 3), of(65), s(2, 6)},
		{api.SHL, s(1, 3), s(0, 4), s(1, 48)},
		{api.SHL, s(1, 3), s(0, 63), full()},
		{api.SHL, s(0, 1), s(1, 63), s(0, 1<<63)},
		{api.SHL, s(0, 1), s(1, 64), full()},
		{api.SHL, of(0), s(0, 63), of(0)},
		{api.SHL, of(0), s(0, 64), full()},
		{api.SHL, of(0), s(64, 65), full()},
		{api.SHL, of(3), of(63), of(1 << 63)},
		{api.SHL, of(3), of(64), of(3)},
		{api.SHL, of(3), of(66), of(12)},
		{api.SHL, of(3), of(top), of(1 << 63)},
		{api.SHL, s(2, 3), of(63), full()},
		{api.SHL, s(2, 3), of(62), s(1<<63, 3<<62)},
		{api.SHL, s(2, 3), of(64), s(2, 3)},
		{api.SHL, s(2, 3), of(128), s(2, 3)},
		{api.SHL, s(2, 3), of(1<<63 + 1), s(4, 6)},
		{api.SHL, full(), of(0), full()},
		{api.SHL, s(4, top), of(64), s(4, top)},

		{api.SHR, s(8, 16), s(1, 2), s(2, 8)},
		{api.SHR, s(8, 16), s(0, 63), s(0, 16)},
		{api.SHR, s(8, 16), s(1, 63), s(0, 8)},
		{api.SHR, s(8, 16), s(1, 64), s(0, 16)},
		{api.SHR, s(8, 16), s(64, 65), s(0, 16)},
		{api.SHR, s(8, 16), of(64), s(8, 16)},
		{api.SHR, s(8, 16), of(66), s(2, 4)},
		{api.SHR, of(top), of(63), of(1)},
		{api.SHR, of(top), of(64), of(top)},
		{api.SHR, of(top), of(top), of(1)},
		{api.SHR, full(), of(60), s(0, 15)},
		{api.SHR, full(), full(), full()},
	})
}

func TestApplyTruths(t *testing.T) {
	expectApply(t, []applied{
		{api.SLT, s(1, 3), s(4, 5), of(1)},
		{api.SLT, s(1, 3), s(3, 5), s(0, 1)},
		{api.SLT, s(5, 9), s(1, 5), of(0)},
		{api.SLT, s(4, 9), s(1, 5), s(0, 1)},
		{api.SLT, of(4), of(5), of(1)},
		{api.SLT, of(5), of(5), of(0)},
		{api.SLT, of(5), of(4), of(0)},
		{api.SLT, of(1 << 63), of(1), of(0)},
		{api.SLT, full(), of(0), of(0)},
		{api.SLT, full(), of(1), s(0, 1)},
		{api.SLT, of(top), full(), of(0)},
		{api.SLT, full(), full(), s(0, 1)},

		{api.SEQ, s(1, 3), s(4, 5), of(0)},
		{api.SEQ, s(4, 5), s(1, 3), of(0)},
		{api.SEQ, s(1, 4), s(4, 5), s(0, 1)},
		{api.SEQ, s(1, 9), s(4, 5), s(0, 1)},
		{api.SEQ, of(4), of(4), of(1)},
		{api.SEQ, of(4), s(4, 5), s(0, 1)},
		{api.SEQ, of(4), of(5), of(0)},
		{api.SEQ, full(), full(), s(0, 1)},
	})
}

func TestApplyOfNone(t *testing.T) {
	for op := range 256 {
		op := api.Op(op)
		expectApply(t, []applied{
			{op, none(), s(1, 2), none()},
			{op, s(1, 2), none(), none()},
			{op, s(9, 4), of(5), none()},
			{op, of(5), s(top, 0), none()},
			{op, s(4, 3), s(9, 8), none()},
			{op, full(), s(2, 1), none()},
		})
		if !reckons(op) {
			expectApply(t, []applied{
				{op, of(1), of(1), full()},
				{op, s(1, 2), s(5, 6), full()},
				{op, full(), of(0), full()},
			})
		}
	}
}

func TestRefineByEqual(t *testing.T) {
	expectRefine(t, []refined{
		{api.BEQ, s(0, 3), s(4, 9), none(), none(), false},
		{api.BEQ, s(4, 9), s(0, 3), none(), none(), false},
		{api.BEQ, s(0, 5), s(4, 9), s(4, 5), s(4, 5), true},
		{api.BEQ, s(0, 4), s(4, 9), of(4), of(4), true},
		{api.BEQ, of(4), full(), of(4), of(4), true},
		{api.BEQ, of(4), of(4), of(4), of(4), true},
		{api.BEQ, of(4), of(5), none(), none(), false},
		{api.BEQ, full(), full(), full(), full(), true},

		{api.BNE, s(0, 8), of(0), s(1, 8), of(0), true},
		{api.BNE, s(0, 8), of(8), s(0, 7), of(8), true},
		{api.BNE, s(0, 8), of(4), s(0, 8), of(4), true},
		{api.BNE, s(0, 8), of(9), s(0, 8), of(9), true},
		{api.BNE, of(0), s(0, 8), of(0), s(1, 8), true},
		{api.BNE, of(8), s(0, 8), of(8), s(0, 7), true},
		{api.BNE, of(4), s(0, 8), of(4), s(0, 8), true},
		{api.BNE, of(5), s(5, 6), of(5), of(6), true},
		{api.BNE, s(5, 6), of(6), of(5), of(6), true},
		{api.BNE, s(5, 6), s(5, 6), s(5, 6), s(5, 6), true},
		{api.BNE, s(0, 8), s(0, 1), s(0, 8), s(0, 1), true},
		{api.BNE, s(0, 8), s(7, 8), s(0, 8), s(7, 8), true},
		{api.BNE, of(5), of(5), none(), none(), false},
		{api.BNE, of(0), of(0), none(), none(), false},
		{api.BNE, of(top), of(top), none(), none(), false},
		{api.BNE, of(5), of(6), of(5), of(6), true},
		{api.BNE, full(), of(top), s(0, top-1), of(top), true},
		{api.BNE, full(), of(0), s(1, top), of(0), true},
		{api.BNE, full(), full(), full(), full(), true},
	})
}

func TestRefineByBelow(t *testing.T) {
	expectRefine(t, []refined{
		{api.BLT, s(0, 100), s(0, 8), s(0, 7), s(1, 8), true},
		{api.BLT, s(8, 100), s(0, 8), none(), none(), false},
		{api.BLT, s(7, 100), s(0, 8), of(7), of(8), true},
		{api.BLT, s(0, 3), s(5, 8), s(0, 3), s(5, 8), true},
		{api.BLT, s(0, 7), s(1, 8), s(0, 7), s(1, 8), true},
		{api.BLT, s(0, 8), s(0, 8), s(0, 7), s(1, 8), true},
		{api.BLT, full(), full(), s(0, top-1), s(1, top), true},
		{api.BLT, of(0), of(0), none(), none(), false},
		{api.BLT, of(3), of(4), of(3), of(4), true},
		{api.BLT, of(4), of(3), none(), none(), false},
		{api.BLT, s(0, 9), of(0), none(), none(), false},
		{api.BLT, full(), of(0), none(), none(), false},
		{api.BLT, of(top), full(), none(), none(), false},
		{api.BLT, of(top - 1), full(), of(top - 1), of(top), true},

		{api.BGE, s(0, 100), s(0, 8), s(0, 100), s(0, 8), true},
		{api.BGE, s(0, 7), s(8, 9), none(), none(), false},
		{api.BGE, s(0, 8), s(8, 9), of(8), of(8), true},
		{api.BGE, s(0, 5), s(3, 9), s(3, 5), s(3, 5), true},
		{api.BGE, s(5, 9), s(0, 3), s(5, 9), s(0, 3), true},
		{api.BGE, of(3), of(3), of(3), of(3), true},
		{api.BGE, of(3), of(4), none(), none(), false},
		{api.BGE, of(top), full(), of(top), full(), true},
		{api.BGE, full(), of(top), of(top), of(top), true},
		{api.BGE, of(0), full(), of(0), of(0), true},
		{api.BGE, full(), full(), full(), full(), true},
		{api.BGE, of(0), s(1, top), none(), none(), false},
	})
}

func TestRefineByNone(t *testing.T) {
	for op := range 256 {
		op := api.Op(op)
		expectRefine(t, []refined{
			{op, none(), s(1, 2), none(), none(), false},
			{op, s(1, 2), s(3, 2), none(), none(), false},
			{op, s(top, 0), full(), none(), none(), false},
			{op, full(), s(top, 0), none(), none(), false},
			{op, s(4, 3), s(9, 8), none(), none(), false},
		})
		if !branches(op) {
			expectRefine(t, []refined{
				{op, s(1, 2), s(5, 6), s(1, 2), s(5, 6), true},
				{op, of(1), of(1), of(1), of(1), true},
				{op, full(), of(0), full(), of(0), true},
			})
		}
	}
}

// applied is a call of Apply, and what it must answer.
type applied struct {
	op         api.Op
	a, b, want api.Span
}

func expectApply(t *testing.T, l []applied) {
	t.Helper()
	for _, c := range l {
		if got := span.Apply(c.op, c.a, c.b); got != c.want {
			t.Errorf("2.4: Apply(%d, %v, %v) = %v, want %v", c.op, c.a, c.b, got, c.want)
		}
	}
}

// refined is a call of Refine, and what it must answer.
type refined struct {
	op         api.Op
	a, b, x, y api.Span
	ok         bool
}

func expectRefine(t *testing.T, l []refined) {
	t.Helper()
	for _, c := range l {
		if x, y, ok := span.Refine(c.op, c.a, c.b); x != c.x || y != c.y || ok != c.ok {
			t.Errorf("2.5: Refine(%d, %v, %v) = %v, %v, %t, want %v, %v, %t", c.op, c.a, c.b, x, y, ok, c.x, c.y, c.ok)
		}
	}
}

func reckons(op api.Op) bool {
	return api.ADD <= op && op <= api.SHR || op == api.SLT || op == api.SEQ
}

func branches(op api.Op) bool { return api.BEQ <= op && op <= api.BGE }
