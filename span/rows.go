package span

import (
	"math/bits"

	"paddock/api"
)

// row is what an operation does: to two numbers; to all numbers of two spans, of which at least one is more than one number; and what a branch leaves of two spans. Spans that are handed to it are not empty.
type row struct {
	one  func(x uint64, y uint64) uint64
	all  func(a numbers, b numbers) numbers
	left func(a numbers, b numbers) (numbers, numbers)
}

// rowOf is an operation's row; of what reckons with nothing it has no functions.
func rowOf(op api.Op) row {
	rows := [...]row{
		api.ADD: {one: func(x uint64, y uint64) uint64 { return x + y }, all: sums},
		api.SUB: {one: func(x uint64, y uint64) uint64 { return x - y }, all: differences},
		api.MUL: {one: func(x uint64, y uint64) uint64 { return x * y }, all: products},
		api.AND: {one: func(x uint64, y uint64) uint64 { return x & y }, all: ands},
		api.OR:  {one: func(x uint64, y uint64) uint64 { return x | y }, all: ors},
		api.XOR: {one: func(x uint64, y uint64) uint64 { return x ^ y }, all: xors},
		api.SHL: {one: func(x uint64, y uint64) uint64 { return x << (y % wordBits) }, all: movesUp},
		api.SHR: {one: func(x uint64, y uint64) uint64 { return x >> (y % wordBits) }, all: movesDown},
		api.SLT: {one: func(x uint64, y uint64) uint64 { return truth(x < y) }, all: belows},
		api.SEQ: {one: func(x uint64, y uint64) uint64 { return truth(x == y) }, all: equals},
		api.BEQ: {left: whereEqual},
		api.BNE: {left: whereUnlike},
		api.BLT: {left: whereBelow},
		api.BGE: {left: whereNotBelow},
	}
	if int(op) >= len(rows) {
		return row{}
	}
	return rows[op]
}

// wordBits is how many bits a number has.
const wordBits = 64

func truth(b bool) uint64 {
	if b {
		return 1
	}
	return 0
}

// sums: if the lowest sum goes round, all do; if the highest does not, none does.
func sums(a numbers, b numbers) numbers {
	lo, lowRound := bits.Add64(a.Lo, b.Lo, 0)
	hi, highRound := bits.Add64(a.Hi, b.Hi, 0)
	if lowRound != highRound {
		return full()
	}
	return numbers{lo, hi}
}

// differences: if the highest one goes round, all do; if the lowest does not, none does.
func differences(a numbers, b numbers) numbers {
	lo, lowRound := bits.Sub64(a.Lo, b.Hi, 0)
	hi, highRound := bits.Sub64(a.Hi, b.Lo, 0)
	if lowRound != highRound {
		return full()
	}
	return numbers{lo, hi}
}

func products(a numbers, b numbers) numbers {
	over, hi := bits.Mul64(a.Hi, b.Hi)
	if over != 0 {
		return full()
	}
	return numbers{a.Lo * b.Lo, hi}
}

func ands(a numbers, b numbers) numbers { return numbers{0, min(a.Hi, b.Hi)} }

func ors(a numbers, b numbers) numbers { return numbers{max(a.Lo, b.Lo), allOnes(a, b)} }

func xors(a numbers, b numbers) numbers { return numbers{0, allOnes(a, b)} }

// allOnes is the least number of ones alone that is not below any number of two spans.
func allOnes(a numbers, b numbers) uint64 {
	return 1<<bits.Len64(a.Hi|b.Hi) - 1
}

func movesUp(a numbers, b numbers) numbers {
	b = places(b)
	if b.Hi >= wordBits || a.Hi<<b.Hi>>b.Hi != a.Hi {
		return full()
	}
	return numbers{a.Lo << b.Lo, a.Hi << b.Hi}
}

func movesDown(a numbers, b numbers) numbers {
	b = places(b)
	if b.Hi >= wordBits {
		return numbers{0, a.Hi}
	}
	return numbers{a.Lo >> b.Hi, a.Hi >> b.Lo}
}

// places is by how many places numbers are moved. Of several that go beyond 63 the remainders need not lie side by side, so they are left as they are.
func places(b numbers) numbers {
	if b.single() {
		return numbers{b.Lo % wordBits, b.Hi % wordBits}
	}
	return b
}

func belows(a numbers, b numbers) numbers {
	switch {
	case a.Hi < b.Lo:
		return numbers{1, 1}
	case a.Lo >= b.Hi:
		return numbers{0, 0}
	}
	return numbers{0, 1}
}

func equals(a numbers, b numbers) numbers {
	if a.meet(b).empty() {
		return numbers{0, 0}
	}
	return numbers{0, 1}
}

func whereEqual(a numbers, b numbers) (numbers, numbers) {
	m := a.meet(b)
	return m, m
}

func whereUnlike(a numbers, b numbers) (numbers, numbers) {
	return without(a, b), without(b, a)
}

// without is a span less a number at one of its ends: a hole within it could not be told.
func without(a numbers, b numbers) numbers {
	switch {
	case !b.single():
		return a
	case a == b:
		return none()
	case a.Lo == b.Lo:
		a.Lo++
	case a.Hi == b.Lo:
		a.Hi--
	}
	return a
}

func whereBelow(a numbers, b numbers) (numbers, numbers) {
	// Asked first: at the ends of all numbers one less, or one more, would go round.
	if a.Lo >= b.Hi {
		return none(), none()
	}
	return numbers{a.Lo, min(a.Hi, b.Hi-1)}, numbers{max(b.Lo, a.Lo+1), b.Hi}
}

// whereNotBelow leaves both empty, if all of a is below all of b.
func whereNotBelow(a numbers, b numbers) (numbers, numbers) {
	return numbers{max(a.Lo, b.Lo), a.Hi}, numbers{b.Lo, min(b.Hi, a.Hi)}
}
