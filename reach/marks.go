package reach

import (
	"iter"
	"slices"

	"paddock/api"
)

// marks are numbers that rise, each of which is taken once at most.
type marks struct {
	at []uint64
	// next leads from a mark to the first one from there on that is not taken, perhaps by others between: from one that is not taken to itself. It goes one beyond the last mark.
	next []int
}

func marksOf(at []uint64) *marks {
	m := &marks{at: at, next: make([]int, len(at)+1)}
	for k := range m.next {
		m.next[k] = k
	}
	return m
}

// find is the place of a number among the marks; false, if it is none.
func (m *marks) find(n uint64) (int, bool) { return slices.BinarySearch(m.at, n) }

func (m *marks) isTaken(k int) bool { return m.next[k] != k }

// left is the first mark from k on that is not taken. It makes the ways shorter that it goes, so that marks that were taken are not gone through again and again.
func (m *marks) left(k int) int {
	for m.isTaken(k) {
		m.next[k] = m.next[m.next[k]]
		k = m.next[k]
	}
	return k
}

// take takes the marks from which on so many numbers lie within a capability's bounds, and goes through those of them that were not taken yet.
func (m *marks) take(c api.Cap, size uint64) iter.Seq[int] {
	return func(yield func(int) bool) {
		first, _ := m.find(c.Base)
		for k := m.left(first); k < len(m.at) && isRoom(m.at[k], c.End, size); k = m.left(k) {
			m.next[k] = k + 1
			if !yield(k) {
				return
			}
		}
	}
}

// isRoom tells whether so many numbers lie from one on, up to an end. It asks what is left, as a sum could go round.
func isRoom(at uint64, end uint64, size uint64) bool {
	return at <= end && size <= end-at
}
