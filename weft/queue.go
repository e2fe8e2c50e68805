package weft

import (
	"slices"
	"sync"
)

// queue is a channel. Who puts into it and who takes of it may go on at the same time, so it is guarded. Of nil, which is no channel, nothing ever comes, and what is put into it goes nowhere.
type queue struct {
	guard   sync.Mutex
	numbers []uint64 // all that were ever in it
	taken   int
	isFed   bool // it has a writer, and that one is not over
}

func newQueue(numbers []uint64) *queue { return &queue{numbers: slices.Clone(numbers)} }

// begin tells it that it has a writer.
func (q *queue) begin() { q.feed(true) }

// finish tells it that its writer is over.
func (q *queue) finish() { q.feed(false) }

func (q *queue) feed(is bool) {
	if q == nil {
		return
	}
	q.guard.Lock()
	defer q.guard.Unlock()
	q.isFed = is
}

func (q *queue) put(n uint64) {
	if q == nil {
		return
	}
	q.guard.Lock()
	defer q.guard.Unlock()
	q.numbers = append(q.numbers, n)
}

// take takes the first number that is left (false: there is none).
func (q *queue) take() (uint64, bool) {
	if q == nil {
		return 0, false
	}
	q.guard.Lock()
	defer q.guard.Unlock()
	if q.taken == len(q.numbers) {
		return 0, false
	}
	n := q.numbers[q.taken]
	q.taken++
	return n, true
}

// isAwaited tells whether who takes of it has to wait: nothing is left, but something may come. Only who takes can make it so again, so one that was not told to wait may take.
func (q *queue) isAwaited() bool {
	if q == nil {
		return false
	}
	q.guard.Lock()
	defer q.guard.Unlock()
	return q.isFed && q.taken == len(q.numbers)
}

// told is all that was ever in it, and how much of that was taken.
func (q *queue) told() ([]uint64, int) {
	q.guard.Lock()
	defer q.guard.Unlock()
	return slices.Clone(q.numbers), q.taken
}
