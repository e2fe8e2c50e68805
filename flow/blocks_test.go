package flow_test

import (
	"testing"

	"paddock/flow"
)

func TestBlocks(t *testing.T) {
	for _, c := range []struct{ code, entries, want string }{
		{example, "0", "0-0: 1, 1-1: 2 4, 2-3: 1, 4-4:, 5-5:"},
		{example, "", "0-0: 1, 1-1: 2 4, 2-3: 1, 4-4:, 5-5:"},
		{example, "3 3 -1 6", "0-0: 1, 1-1: 2 4, 2-2: 3, 3-3: 1, 4-4:, 5-5:"},
		{"", "", ""}, {"", "0", ""}, {"", "-1 1", ""},
		{"li", "", "0-0:"}, {"li", "0 0", "0-0:"}, {"ret", "", "0-0:"}, {"jmp", "", "0-0: 0"}, {"beq", "", "0-0: 0"}, {"jc", "", "0-0: 0"}, {"jmp 1", "", "0-0:"},

		{"li / li / li / li", "", "0-3:"}, {"li / li / li / li", "0", "0-3:"}, {"li / li / li / li", "2", "0-1: 2, 2-3:"}, {"li / li / li / li", "3 1 1", "0-0: 1, 1-2: 3, 3-3:"}, {"li / li", "least -1 2 most", "0-1:"},
		{"li / jmp 3 / li / li", "", "0-1: 3, 2-2: 3, 3-3:"}, {"li / jmp 2 / li / li", "", "0-1: 2, 2-3:"}, {"li / jmp 1 / li", "", "0-0: 1, 1-1: 1, 2-2:"}, {"li / jmp 0 / li", "", "0-1: 0, 2-2:"}, {"li / jmp 9 / li", "", "0-1:, 2-2:"}, {"li / jmp -1 / li", "", "0-1:, 2-2:"},
		{"li / beq 3 / li / li", "", "0-1: 2 3, 2-2: 3, 3-3:"}, {"li / bne 2 / li / li", "", "0-1: 2, 2-3:"}, {"li / blt 1 / li / li", "", "0-0: 1, 1-1: 1 2, 2-3:"}, {"li / bge 0 / li / li", "", "0-1: 0 2, 2-3:"}, {"li / beq 4 / li / li", "", "0-1: 2, 2-3:"}, {"li / beq -1 / li / li", "", "0-1: 2, 2-3:"},
		{"li / li / beq", "", "0-2: 0"}, {"li / li / beq 1", "", "0-0: 1, 1-2: 1"}, {"li / li / beq 3", "", "0-2:"},
		{"li / halt 3 / li / li", "", "0-1:, 2-3:"}, {"li / trap 3 / li / li", "", "0-1:, 2-3:"}, {"li / ret 3 / li / li", "", "0-1:, 2-3:"},
		{"li / call 3 / li / li", "", "0-3:"}, {"li / cpc 3 / out / in", "", "0-3:"}, {"li / 14 3 / 0 3 / 255 3", "", "0-3:"},
		{"li / li / jc / li / li", "", "0-0: 1, 1-1: 2, 2-2: 0 1 2 3 4, 3-3: 4, 4-4:"},

		// Whether one can be come to is not asked.
		{"ret / li / li / jmp 2", "0", "0-0:, 1-1: 2, 2-3: 2"},
		{twoRounds, "0", "0-0: 1 4, 1-1: 2, 2-2: 3, 3-3: 5, 4-4: 5, 5-5: 2 6, 6-6: 1 7, 7-7: 9, 8-8: 8, 9-9:"},
	} {
		if got := told(flow.Blocks(code(c.code), list(c.entries)...)); got != c.want {
			t.Errorf("8.4: Blocks(%s, %s) = %s, want %s", c.code, c.entries, got, c.want)
		}
	}
}
