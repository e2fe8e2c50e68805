package trim_test

import (
	"testing"

	"paddock/api"
	"paddock/instr"
	"paddock/trim"
)

// against holds Fold, Pack and Trim of a program against the plain readings.
func against(t *testing.T, m api.Image, seen map[rule]int) {
	t.Helper()
	f, ok := trim.Fold(m)
	wantF, wantOk := foldBy(m, seen)
	if ok != wantOk || !same(f, wantF) {
		t.Fatalf("19.1: Fold of\n%s\n%t\n%s\nwant %t\n%s", shown(m), ok, shown(f), wantOk, shown(wantF))
	}
	if p, want := trim.Pack(m), packBy(m); !same(p, want) {
		t.Fatalf("19.2: Pack of\n%s\n%s\nwant\n%s", shown(m), shown(p), shown(want))
	}
	z, ok := trim.Trim(m)
	wantZ, wantOk := trimBy(m)
	if ok != wantOk || !same(z, wantZ) {
		t.Fatalf("19.3: Trim of\n%s\n%t\n%s\nwant %t\n%s", shown(m), ok, shown(z), wantOk, shown(wantZ))
	}
}

// TestAgainstPlainReading: programs of dice, taken and not.
func TestAgainstPlainReading(t *testing.T) {
	t.Parallel()
	seen := map[rule]int{}
	refused, shorter := 0, 0
	for k, m := range many() {
		d := rolled(1000 + uint64(k))
		against(t, m, seen)
		if len(trimmed(t, m).Comps[0].Code) < len(m.Comps[0].Code) {
			shorter++
		}
		for range 2 {
			x := d.any()
			against(t, x, seen)
			if !isTaken(x) {
				refused++
			}
		}
	}
	checkWide(t, seen)
	if refused < 400 || shorter < 100 {
		t.Errorf("%d programs were refused, %d trimmed to less: the dice are too narrow", refused, shorter)
	}
}

// checkWide looks whether each rule was used of each operation that it speaks of.
func checkWide(t *testing.T, seen map[rule]int) {
	t.Helper()
	for _, op := range ops() {
		name := instr.Name(op)
		numbers := []int{1}
		switch {
		case isOneOf(op, answering):
			numbers = append(numbers, 2, 5)
		case isOneOf(op, guarding):
			numbers = append(numbers, 3, 5)
		case isOneOf(op, forking):
			numbers = append(numbers, 4, 5)
		default:
			numbers = append(numbers, 5)
		}
		for _, number := range numbers {
			if seen[rule{number, op}] < 5 {
				t.Errorf("19.1: the rule %d was used of %s %d times: the dice are too narrow", number, name, seen[rule{number, op}])
			}
		}
	}
}
