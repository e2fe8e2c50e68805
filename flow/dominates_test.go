package flow_test

import (
	"math"
	"testing"
)

// dominated is, of an instruction, those that dominate it.
type dominated struct {
	b  int
	by string
}

func checkDominated(t *testing.T, text, entries string, all ...dominated) {
	t.Helper()
	l := code(text)
	for _, d := range all {
		by := make([]bool, len(l))
		for _, a := range list(d.by) {
			by[a] = true
		}
		for a := range l {
			asked(t, l, a, d.b, list(entries), by[a])
		}
	}
}

func TestDominates(t *testing.T) {
	checkDominated(t, example, "0", dominated{0, "0"}, dominated{1, "0 1"}, dominated{2, "0 1 2"}, dominated{3, "0 1 2 3"}, dominated{4, "0 1 4"}, dominated{5, "0 1 2 3 4 5"})
	checkDominated(t, example, "0 2", dominated{0, "0"}, dominated{1, "1"}, dominated{2, "2"}, dominated{3, "2 3"}, dominated{4, "1 4"}, dominated{5, "0 1 2 3 4 5"})
	checkDominated(t, example, "1", dominated{0, "0 1 2 3 4 5"}, dominated{1, "1"}, dominated{2, "1 2"}, dominated{4, "1 4"})
	checkDominated(t, example, "4 0 4 -1 6", dominated{3, "0 1 2 3"}, dominated{4, "4"})
	checkDominated(t, example, "", dominated{0, "0 1 2 3 4 5"}, dominated{3, "0 1 2 3 4 5"}, dominated{5, "0 1 2 3 4 5"})
	checkDominated(t, example, "-1 6 least most", dominated{0, "0 1 2 3 4 5"}, dominated{4, "0 1 2 3 4 5"})
	checkDominated(t, "ret", "0", dominated{0, "0"})
	checkDominated(t, "jmp", "", dominated{0, "0"})
	checkDominated(t, twoRounds, "0", dominated{1, "0 1"}, dominated{2, "0 2"}, dominated{3, "0 2 3"}, dominated{4, "0 4"}, dominated{5, "0 5"}, dominated{6, "0 5 6"}, dominated{7, "0 5 6 7"}, dominated{8, "0 1 2 3 4 5 6 7 8 9"}, dominated{9, "0 5 6 7 9"})
	checkDominated(t, twoRounds, "6", dominated{6, "6"}, dominated{1, "1 6"}, dominated{2, "1 2 6"}, dominated{5, "1 2 3 5 6"}, dominated{9, "6 7 9"}, dominated{0, "0 1 2 3 4 5 6 7 8 9"})
	checkDominated(t, "li / jc / li / ret", "0", dominated{0, "0"}, dominated{1, "0 1"}, dominated{2, "0 1 2"}, dominated{3, "0 1 3"})
	checkDominated(t, "li / jc / li / ret", "1 3", dominated{0, "0 1"}, dominated{1, "1"}, dominated{2, "1 2"}, dominated{3, "3"})
	checkDominated(t, "jmp 9 / beq -1 / ret", "0 1", dominated{0, "0"}, dominated{1, "1"}, dominated{2, "1 2"})
}

// TestDominatesOfWhatIsNotThere: not even itself, nor what cannot be come to.
func TestDominatesOfWhatIsNotThere(t *testing.T) {
	for _, text := range []string{"", "ret", example} {
		l := code(text)
		for _, wrong := range []int{-1, len(l), len(l) + 1, 64, 1000, math.MinInt, math.MaxInt} {
			asked(t, l, wrong, wrong, nil, false)
			for _, entries := range [][]int{nil, {0}, {wrong}} {
				asked(t, l, wrong, 0, entries, false)
				asked(t, l, 0, wrong, entries, false)
				asked(t, l, wrong, 5, entries, false)
				asked(t, l, 5, wrong, entries, false)
				asked(t, l, wrong, wrong, entries, false)
			}
		}
	}
}
