package weft_test

import (
	"testing"

	"paddock/api"
	"paddock/weft"
)

// TestExamples: the chapter's, in their order.
func TestExamples(t *testing.T) {
	t.Run("1", func(t *testing.T) {
		w := begun(t, pipe(t))
		script{{1, 5, 0}, {0, 3, 3}, {1, 5, 4}, {0, 9, 6}}.check(t, "a pipe", w)
		finish(t, w, 2)
		want := flowOf([]api.Outcome{starved(0), starved(0)}, [][]uint64{{1, 2}, {11, 12}, {21, 22}}, 2, 2, 0)
		checkFlow(t, "20.4: a pipe", w.Flow(), want)
		checkFlow(t, "20.5: a pipe", ran(t, pipe(t), 1000), want)
	})
	t.Run("2", func(t *testing.T) {
		n := netOf(t, [][]uint64{nil}, []string{addCode}, from(0, 0, 0))
		w := begun(t, n)
		script{{0, 5, 0}}.check(t, "one that waits for itself", w)
		checkIdle(t, "one that waits for itself", w, true)
		want := flowOf([]api.Outcome{at(0)}, [][]uint64{nil}, 0)
		checkFlow(t, "20.4: one that waits for itself", w.Flow(), want)
		checkFlow(t, "20.5: one that waits for itself", ran(t, n, 9), want)
		n.Queues[0] = []uint64{5}
		checkFlow(t, "20.5: one that feeds itself", ran(t, n, 9), flowOf([]api.Outcome{spent(1)}, [][]uint64{{5, 15, 25}}, 3))
	})
	t.Run("3", func(t *testing.T) {
		ring := netOf(t, [][]uint64{nil, nil}, []string{addCode}, from(0, 0, 1), from(0, 1, 0))
		checkIdle(t, "a ring", begun(t, ring), true)
		want := flowOf([]api.Outcome{at(0), at(0)}, [][]uint64{nil, nil}, 0, 0)
		checkFlow(t, "20.4: a ring", begun(t, ring).Flow(), want)
		checkFlow(t, "20.5: a ring", ran(t, ring, 100), want)
		n := netOf(t, [][]uint64{nil, nil}, []string{addCode, oneCode}, from(1, -1, 0), from(0, 0, 1))
		checkFlow(t, "20.5: one and add", ran(t, n, 100), flowOf([]api.Outcome{halted(1, 2), starved(0)}, [][]uint64{{1}, {11}}, 1, 0))
	})
	t.Run("4", func(t *testing.T) {
		n := netOf(t, [][]uint64{nil, nil, nil}, []string{addCode}, from(0, 1, 0), from(0, 2, 0))
		if e := weft.Right(n); e != api.ErrShared {
			t.Errorf("20.1: two with Out 0: %d, want ErrShared", e)
		}
		n = netOf(t, [][]uint64{nil, nil, nil}, []string{addCode}, from(0, 3, 0))
		if e := weft.Right(n); e != api.ErrNet {
			t.Errorf("20.1: In 3, where there are three channels: %d, want ErrNet", e)
		}
	})
}
