package tape_test

import (
	"testing"

	"paddock/api"
)

// TestFindInALoop: forth and back, from everywhere.
func TestFindInALoop(t *testing.T) {
	// counting: places of its instruction 2 are 2, 7 and 12; the run ends at 15, behind the step 16.
	x := taped(t, counting, 99, 1, 2, 3)
	checkLen(t, "counting", x, 16)
	for _, s := range []seek{
		{0, 2, least, false, 2}, {0, 2, -1, false, 2}, {0, 2, 0, false, 2}, {0, 2, 2, false, 2}, {0, 2, 3, false, 7}, {0, 2, 6, false, 7}, {0, 2, 7, false, 7}, {0, 2, 8, false, 12}, {0, 2, 12, false, 12},
		{0, 2, 13, false, -1}, {0, 2, 16, false, -1}, {0, 2, 17, false, -1}, {0, 2, most, false, -1},
		{0, 2, most, true, 12}, {0, 2, 17, true, 12}, {0, 2, 16, true, 12}, {0, 2, 12, true, 12}, {0, 2, 11, true, 7}, {0, 2, 7, true, 7}, {0, 2, 6, true, 2}, {0, 2, 2, true, 2},
		{0, 2, 1, true, -1}, {0, 2, 0, true, -1}, {0, 2, -1, true, -1}, {0, 2, least, true, -1},
		// The instruction with which it begins, and with which it ends.
		{0, 0, least, false, 0}, {0, 0, 0, false, 0}, {0, 0, 1, false, 5}, {0, 0, 0, true, 0}, {0, 0, 4, true, 0}, {0, 0, -1, true, -1},
		{0, 0, 15, false, 15}, {0, 0, 16, false, -1}, {0, 0, 16, true, 15}, {0, 0, most, true, 15},
	} {
		s.check(t, "counting", x)
	}
}

// TestFindOnce: what is at hand once, at the beginning, in between and at the end.
func TestFindOnce(t *testing.T) {
	x := taped(t, storing, 99)
	for pc := range 4 {
		for from := -2; from < 7; from++ {
			forth, back := -1, -1
			if from <= pc {
				forth = pc
			}
			if from >= pc {
				back = pc
			}
			seek{0, pc, from, false, forth}.check(t, "storing", x)
			seek{0, pc, from, true, back}.check(t, "storing", x)
		}
	}
}

// TestFindAtTheLastPlace: it counts if the run is Spent there, and not if it has ended.
func TestFindAtTheLastPlace(t *testing.T) {
	for fuel := range 4 {
		x := taped(t, storing, fuel)
		seek{0, fuel, 0, false, fuel}.check(t, "Spent", x)
		seek{0, fuel, most, true, fuel}.check(t, "Spent", x)
		seek{0, fuel, fuel + 1, false, -1}.check(t, "Spent", x)
		seek{0, fuel + 1, 0, false, -1}.check(t, "Spent", x)
	}
	// A loop of one instruction: it is at hand at each place.
	x := taped(t, "jmp 0", 50)
	for from := range 51 {
		seek{0, 0, from, false, from}.check(t, "a small loop", x)
		seek{0, 0, from, true, from}.check(t, "a small loop", x)
	}
	seek{0, 0, 51, false, -1}.check(t, "a small loop", x)
	seek{0, 0, 51, true, 50}.check(t, "a small loop", x)
	// Starved there: not at hand any more.
	x = taped(t, "in r1;jmp 0", 50)
	seek{0, 0, 1, false, -1}.check(t, "Starved", x)
	seek{0, 0, 1, true, 0}.check(t, "Starved", x)
}

// TestFindNothing: instructions that are not come to, or not there, and gates that are not there.
func TestFindNothing(t *testing.T) {
	x := taped(t, "jmp 2;out r1;in r1;jmp 2", 9, 1, 2)
	for _, c := range [][2]int{{0, 1}, {0, 4}, {0, 400}, {0, -1}, {0, least}, {0, most}, {1, 0}, {1, 2}, {-1, 0}, {-1, 2}, {16, 0}, {least, 0}, {most, 0}} {
		for _, from := range []int{least, -1, 0, 1, 5, 6, 9, most} {
			seek{c[0], c[1], from, false, -1}.check(t, "not there", x)
			seek{c[0], c[1], from, true, -1}.check(t, "not there", x)
		}
	}
}

// TestFindByGate: of two gates of one compartment that one counts by which it was come in; who called is at hand behind the RET.
func TestFindByGate(t *testing.T) {
	const text = "depth 2;comp;li r1 3;call a;call b;call a;halt r1;comp;addi r1 r1 1;ret;gate main 0 0 ->;gate a 1 0 int -> int;gate b 1 0 int -> int;gate c 1 1 ->"
	r := run{m: parse(t, text), fuel: 99}
	x, m := recorded(t, r), modelOf(t, r)
	checkOutcome(t, "gates", x, halted(6, 4))
	// The places: 0, 1; in a 2, 3; 4; in b 5, 6; 7; in a 8, 9; 10.
	for _, s := range []seek{
		{1, 0, 0, false, 2}, {1, 0, 3, false, 8}, {1, 0, 9, false, -1}, {1, 0, 99, true, 8}, {1, 0, 7, true, 2}, {1, 0, 1, true, -1}, {1, 1, 0, false, 3}, {1, 1, 99, true, 9},
		{2, 0, 0, false, 5}, {2, 0, 6, false, -1}, {2, 0, 99, true, 5}, {2, 1, 0, false, 6}, {2, 1, 5, true, -1},
		{3, 0, 0, false, -1}, {3, 1, 0, false, -1}, {3, 1, 99, true, -1},
		{0, 0, 1, false, -1}, {0, 0, 99, true, 0}, {0, 1, 2, false, -1}, {0, 1, 99, true, 1}, {0, 2, 0, false, 4}, {0, 3, 0, false, 7}, {0, 4, 0, false, 10}, {0, 4, 11, false, -1},
	} {
		s.check(t, "gates", x)
	}
	m.checkFinds(t, "gates", x, 4, 5)
	// From the gate c on the code is the same, and it is by that one.
	x = recorded(t, run{m: r.m, gate: 3, fuel: 99})
	seek{3, 1, 0, false, 0}.check(t, "the gate c", x)
	seek{1, 1, 0, false, -1}.check(t, "the gate c", x)
}

// TestFindOfAt: what is found is what At tells, at each place.
func TestFindOfAt(t *testing.T) {
	for _, fuel := range []int{0, 1, 7, 11, 99} {
		x := recorded(t, run{m: parse(t, calling), fuel: fuel})
		for place := range x.Len() + 1 {
			s, e := x.At(place)
			if e != api.OK {
				t.Fatalf("21.3: At(%d): %d", place, e)
			}
			want := place
			if place == x.Len() && x.Outcome().End != api.Spent {
				want = -1
			}
			seek{s.Gate, s.Pc, place, false, want}.check(t, "what At tells", x)
		}
	}
}
