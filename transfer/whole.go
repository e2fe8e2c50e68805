package transfer

import "math/bits"

// whole is a whole number, below 0 or beyond 64 bits too: hi times 2^64 and lo. Sums of few numbers of 64 bits never come near its ends.
type whole struct {
	hi int64
	lo uint64
}

func wholeOf(n uint64) whole { return whole{lo: n} }

func signed(n int) whole { return whole{hi: int64(n) >> 63, lo: uint64(n)} }

func (w whole) plus(o whole) whole {
	lo, carry := bits.Add64(w.lo, o.lo, 0)
	return whole{hi: w.hi + o.hi + int64(carry), lo: lo}
}

func (w whole) below(o whole) bool {
	return w.hi < o.hi || w.hi == o.hi && w.lo < o.lo
}
