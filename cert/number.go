package cert

import "math/bits"

// number is what numbers are told by: as many bytes as its type has, the lowest first.
type number interface{ ~uint8 | ~uint16 | ~uint64 }

// width is how many bytes the numbers of a type have.
func width[N number]() int { return bits.Len64(uint64(^N(0))) / 8 }

// put lays numbers behind some bytes.
func put[N number](b []byte, numbers ...N) []byte {
	for _, n := range numbers {
		for k := range width[N]() {
			b = append(b, byte(n>>(8*k)))
		}
	}
	return b
}

// take reads the next number; 0, if it is not there whole.
func take[N number](r *reader) N {
	size := width[N]()
	if size > len(r.rest) {
		r.isWrong = true
		return 0
	}
	n := N(0)
	for k := range size {
		n |= N(r.rest[k]) << (8 * k)
	}
	r.rest = r.rest[size:]
	return n
}
