package span_test

import (
	"math/big"
	"testing"

	"paddock/api"
	"paddock/span"
)

// edges are numbers at which sums, products and moves turn.
func edges() []uint64 {
	return []uint64{0, 1, 2, 5, 62, 63, 64, 65, 128, 1<<32 - 1, 1 << 32, 1<<63 - 1, 1 << 63, top - 64, top - 1, top}
}

// spansOf are the spans between these numbers; backwards ones, which are empty, too, if asked for.
func spansOf(numbers []uint64, backwards bool) []api.Span {
	var l []api.Span
	for _, lo := range numbers {
		for _, hi := range numbers {
			if lo <= hi || backwards {
				l = append(l, s(lo, hi))
			}
		}
	}
	return l
}

// window is so many numbers from one on, gone round at the top.
func window(first uint64, n int) []uint64 {
	var l []uint64
	for i := range n {
		l = append(l, first+uint64(i))
	}
	return l
}

// inside are those of the numbers that lie in a span.
func inside(a api.Span, numbers []uint64) []uint64 {
	var l []uint64
	for _, n := range numbers {
		if a.Lo <= n && n <= a.Hi {
			l = append(l, n)
		}
	}
	return l
}

func operations() []api.Op {
	return []api.Op{api.ADD, api.SUB, api.MUL, api.AND, api.OR, api.XOR, api.SHL, api.SHR, api.SLT, api.SEQ}
}

func conditions() []api.Op { return []api.Op{api.BEQ, api.BNE, api.BLT, api.BGE} }

func number(b bool) uint64 {
	if b {
		return 1
	}
	return 0
}

// does is what an instruction makes of two numbers.
func does(op api.Op, x uint64, y uint64) uint64 {
	switch op {
	case api.ADD:
		return x + y
	case api.SUB:
		return x - y
	case api.MUL:
		return x * y
	case api.AND:
		return x & y
	case api.OR:
		return x | y
	case api.XOR:
		return x ^ y
	case api.SHL:
		return x << (y & 63)
	case api.SHR:
		return x >> (y & 63)
	case api.SLT:
		return number(x < y)
	}
	return number(x == y)
}

// taken tells whether a branch is taken with two numbers.
func taken(op api.Op, x uint64, y uint64) bool {
	switch op {
	case api.BEQ:
		return x == y
	case api.BNE:
		return x != y
	case api.BLT:
		return x < y
	}
	return x >= y
}

// within is the span between two numbers that do not go round; Full, if they are not both below 2^64, nor both within one turn beyond it or below 0 (where going round is asked for).
func within(lo *big.Int, hi *big.Int, round bool) api.Span {
	turnLo, turnHi := new(big.Int).Rsh(lo, 64), new(big.Int).Rsh(hi, 64)
	if turnLo.Cmp(turnHi) != 0 || turnLo.Sign() != 0 && !round {
		return full()
	}
	mask := new(big.Int).SetUint64(top)
	return s(new(big.Int).And(lo, mask).Uint64(), new(big.Int).And(hi, mask).Uint64())
}

// ones is the least 2^k - 1 that is not below two numbers.
func ones(x uint64, y uint64) uint64 {
	f := uint64(0)
	for f < x || f < y {
		f = f<<1 | 1
	}
	return f
}

// table is the chapter's table, by numbers that do not go round. Neither span is empty.
func table(op api.Op, a api.Span, b api.Span) api.Span {
	if a.Lo == a.Hi && b.Lo == b.Hi {
		return of(does(op, a.Lo, b.Lo))
	}
	wide := func(n uint64) *big.Int { return new(big.Int).SetUint64(n) }
	if (op == api.SHL || op == api.SHR) && b.Lo == b.Hi {
		b = of(b.Lo % 64)
	}
	switch op {
	case api.ADD:
		return within(wide(0).Add(wide(a.Lo), wide(b.Lo)), wide(0).Add(wide(a.Hi), wide(b.Hi)), true)
	case api.SUB:
		return within(wide(0).Sub(wide(a.Lo), wide(b.Hi)), wide(0).Sub(wide(a.Hi), wide(b.Lo)), true)
	case api.MUL:
		return within(wide(0).Mul(wide(a.Lo), wide(b.Lo)), wide(0).Mul(wide(a.Hi), wide(b.Hi)), false)
	case api.AND:
		return s(0, min(a.Hi, b.Hi))
	case api.OR:
		return s(max(a.Lo, b.Lo), ones(a.Hi, b.Hi))
	case api.XOR:
		return s(0, ones(a.Hi, b.Hi))
	case api.SHL:
		if b.Hi > 63 {
			return full()
		}
		return within(wide(0).Lsh(wide(a.Lo), uint(b.Lo)), wide(0).Lsh(wide(a.Hi), uint(b.Hi)), false)
	case api.SHR:
		if b.Hi > 63 {
			return s(0, a.Hi)
		}
		return s(a.Lo>>b.Hi, a.Hi>>b.Lo)
	case api.SLT:
		return s(number(a.Hi < b.Lo), number(a.Lo < b.Hi))
	}
	return s(0, number(a.Lo <= b.Hi && b.Lo <= a.Hi))
}

func TestApplyIsTheTable(t *testing.T) {
	l := spansOf(edges(), false)
	for _, op := range operations() {
		for _, a := range l {
			for _, b := range l {
				if got, want := span.Apply(op, a, b), table(op, a, b); got != want {
					t.Fatalf("2.4: Apply(%d, %v, %v) = %v, want %v", op, a, b, got, want)
				}
			}
		}
	}
}

// losesNothing holds all numbers at hand in two spans against what the calls make of these.
func losesNothing(t *testing.T, a api.Span, b api.Span, numbers []uint64) {
	t.Helper()
	xs, ys := inside(a, numbers), inside(b, numbers)
	for _, op := range operations() {
		got := span.Apply(op, a, b)
		for _, x := range xs {
			for _, y := range ys {
				if n := does(op, x, y); n < got.Lo || n > got.Hi {
					t.Fatalf("2.6: Apply(%d, %v, %v) = %v has not %d, which comes of %d and %d", op, a, b, got, n, x, y)
				}
			}
		}
	}
	for _, op := range conditions() {
		p, q, ok := span.Refine(op, a, b)
		for _, x := range xs {
			for _, y := range ys {
				if taken(op, x, y) && !(ok && span.Has(p, x) && span.Has(q, y)) {
					t.Fatalf("2.6: Refine(%d, %v, %v) = %v, %v, %t has not %d and %d", op, a, b, p, q, ok, x, y)
				}
			}
		}
	}
}

func TestNothingIsLost(t *testing.T) {
	for _, numbers := range [][]uint64{window(0, 8), window(60, 8), window(top-7, 8), {0, 1, 63, 64, 1 << 32, 1 << 63, top}} {
		l := spansOf(numbers, false)
		for _, a := range l {
			for _, b := range l {
				losesNothing(t, a, b, numbers)
			}
		}
	}
}

// TestRefineLeavesNoMore: where all numbers can be gone through, what is left is the least spans, and "false" is told just if no two numbers are so.
func TestRefineLeavesNoMore(t *testing.T) {
	for _, numbers := range [][]uint64{window(0, 6), window(top-5, 6)} {
		l := spansOf(numbers, false)
		for _, op := range conditions() {
			for _, a := range l {
				for _, b := range l {
					p, q := none(), none()
					for _, x := range inside(a, numbers) {
						for _, y := range inside(b, numbers) {
							if taken(op, x, y) {
								p, q = span.Join(p, of(x)), span.Join(q, of(y))
							}
						}
					}
					expectRefine(t, []refined{{op, a, b, p, q, p != none()}})
				}
			}
		}
	}
}

// pair is a span under another one.
type pair struct{ in, out api.Span }

func nested(l []api.Span) []pair {
	var p []pair
	for _, in := range l {
		for _, out := range l {
			if span.Under(in, out) {
				p = append(p, pair{in, out})
			}
		}
	}
	return p
}

func TestOrderIsKept(t *testing.T) {
	for _, numbers := range [][]uint64{{0, 1, 3, 4}, {0, 2, 63, 64}, {1, 64, 65, 66}, {0, 1, 1 << 63, top}, {1<<32 - 1, 1 << 32, top - 1, top}} {
		l := nested(spansOf(numbers, true))
		for _, a := range l {
			for _, b := range l {
				keepsOrder(t, a, b)
			}
		}
	}
}

func keepsOrder(t *testing.T, a pair, b pair) {
	t.Helper()
	for _, op := range append(operations(), api.ADDI, 0, 200) {
		in, out := span.Apply(op, a.in, b.in), span.Apply(op, a.out, b.out)
		if !span.Under(in, out) {
			t.Fatalf("2.6: Apply(%d) of %v and %v is %v, not under %v, that of %v and %v", op, a.in, b.in, in, out, a.out, b.out)
		}
	}
	for _, op := range append(conditions(), api.JMP, 0, 200) {
		p, q, _ := span.Refine(op, a.in, b.in)
		x, y, _ := span.Refine(op, a.out, b.out)
		if !span.Under(p, x) || !span.Under(q, y) {
			t.Fatalf("2.6: Refine(%d) of %v and %v is %v and %v, not under %v and %v, those of %v and %v", op, a.in, b.in, p, q, x, y, a.out, b.out)
		}
	}
}

func TestWidenChangesTwiceAtMost(t *testing.T) {
	l := spansOf([]uint64{0, 1, 5, 6, 1 << 63, top - 1, top}, true)
	for _, first := range l {
		if first.Lo <= first.Hi {
			widenOn(t, first, l, 2)
		}
	}
}

// widenOn goes on from a span by all others, as far as it changes.
func widenOn(t *testing.T, old api.Span, l []api.Span, left int) {
	t.Helper()
	for _, now := range l {
		next := span.Widen(old, now)
		if !span.Under(old, next) || !span.Under(now, next) {
			t.Fatalf("2.3: Widen(%v, %v) = %v has not both", old, now, next)
		}
		if next == old {
			continue
		}
		if left == 0 {
			t.Fatalf("2.6: Widen changes a span a third time: from %v to %v by %v", old, next, now)
		}
		widenOn(t, next, l, left-1)
	}
}

// TestJoinAndMeetAreBest: Join is the least span with both, Meet the greatest in both.
func TestJoinAndMeetAreBest(t *testing.T) {
	l := spansOf([]uint64{0, 1, 4, 7, top}, true)
	for _, a := range l {
		for _, b := range l {
			j := span.Join(a, b)
			m, ok := span.Meet(a, b)
			if !span.Under(a, j) || !span.Under(b, j) || !span.Under(m, a) || !span.Under(m, b) || ok == (m == none()) {
				t.Fatalf("2.2: of %v and %v: Join %v, Meet %v, %t", a, b, j, m, ok)
			}
			for _, c := range l {
				if span.Under(a, c) && span.Under(b, c) && !span.Under(j, c) {
					t.Fatalf("2.2: Join(%v, %v) = %v is not the least: %v", a, b, j, c)
				}
				if span.Under(c, a) && span.Under(c, b) && !span.Under(c, m) {
					t.Fatalf("2.2: Meet(%v, %v) = %v is not the greatest: %v", a, b, m, c)
				}
			}
		}
	}
}
