package tape_test

import (
	"testing"

	"paddock/api"
	"paddock/tape"
)

// TestNil: of a nil tape.
func TestNil(t *testing.T) {
	var x *tape.Tape
	checkLen(t, "a nil tape", x, 0)
	checkOutcome(t, "a nil tape", x, api.Outcome{})
	for _, step := range []int{least, -1, 0, 1, 4096, most} {
		checkNoStep(t, "a nil tape", x, step)
		for _, back := range []bool{false, true} {
			seek{0, 0, step, back, -1}.check(t, "a nil tape", x)
			seek{step, step, 0, back, -1}.check(t, "a nil tape", x)
		}
	}
	for _, addr := range []uint64{0, 3, api.MaxMem - 1, api.MaxMem, top} {
		checkStores(t, "a nil tape", x, addr)
	}
}
