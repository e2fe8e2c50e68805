package flow_test

import (
	"testing"

	"paddock/flow"
)

func TestReached(t *testing.T) {
	for _, c := range []struct{ code, entries, want string }{
		{example, "0", "0 1 2 3 4"}, {example, "1", "1 2 3 4"}, {example, "2", "1 2 3 4"}, {example, "3", "1 2 3 4"}, {example, "4", "4"}, {example, "5", "5"},
		{example, "", ""}, {example, "-1", ""}, {example, "6", ""}, {example, "least -1 6 most", ""}, {example, "5 5", "5"}, {example, "5 -1 4 9 5", "4 5"}, {example, "0 5", "0 1 2 3 4 5"},
		{"", "", ""}, {"", "0", ""}, {"", "-1 0 1", ""},
		{"ret", "0", "0"}, {"ret", "", ""}, {"li", "0", "0"}, {"jmp", "0", "0"}, {"jmp 1", "0", "0"}, {"jc", "0", "0"},

		{"jmp 2 / li / jmp 1", "0", "0 1 2"}, {"jmp 2 / ret / ret", "0", "0 2"}, {"jmp -1 / ret", "0", "0"}, {"jmp 2 / ret", "0", "0"},
		{"beq 2 / ret / ret / ret", "0", "0 1 2"}, {"bne 3 / ret / ret / ret", "0", "0 1 3"}, {"blt 1 / ret / ret", "0", "0 1"}, {"bge 9 / ret / ret", "0", "0 1"}, {"beq -9 / ret / ret", "0", "0 1"},
		{"halt 2 / li / li", "0", "0"}, {"trap 2 / li / li", "0", "0"}, {"ret 2 / li / li", "0", "0"}, {"call 2 / ret / li", "0", "0 1"}, {"cpc 2 / ret / li", "0", "0 1"}, {"14 2 / 0 / 255", "0", "0 1 2"},
		{"li / jc / li / ret", "0", "0 1 2 3"}, {"ret / jc / ret", "1", "0 1 2"}, {"ret / jc / ret", "0 2", "0 2"}, {"jmp 3 / ret / ret / beq 4 / jc", "0", "0 1 2 3 4"},

		{twoRounds, "0", "0 1 2 3 4 5 6 7 9"}, {twoRounds, "6", "1 2 3 5 6 7 9"}, {twoRounds, "8", "8"}, {twoRounds, "7", "7 9"}, {twoRounds, "7 8", "7 8 9"},
	} {
		l := code(c.code)
		checkTruths(t, "8.2: Reached of "+c.code+" from "+c.entries, flow.Reached(l, list(c.entries)...), len(l), list(c.want))
	}
}

func TestHeads(t *testing.T) {
	for _, c := range []struct{ code, want string }{
		{example, "1"}, {"", ""}, {"li", ""}, {"ret", ""}, {"jmp", "0"}, {"beq", "0"}, {"jc", "0"}, {"jmp 1", ""}, {"jmp -1", ""},
		{"li / jmp 0", "0"}, {"li / jmp 1", "1"}, {"jmp 1 / li", ""}, {"jmp 2 / li / jmp 1", "1"}, {"jmp 2 / jmp 0 / jmp 1", "0 1"},
		{"li / beq 0 / ret", "0"}, {"li / bne 1 / ret", "1"}, {"li / blt 2 / ret", ""}, {"li / bge 0 / ret", "0"}, {"li / beq 3 / ret", ""}, {"li / beq -1 / ret", ""}, {"li / beq least / jmp most", ""},
		{"li / jc / li", "0 1"}, {"jc 2 / li / li", "0"}, {"li / li / jc", "0 1 2"}, {"jc / li / jc / li", "0 1 2"}, {"jc / li / li / jmp 2", "0 2"},
		{"halt / trap / ret", ""}, {"li / halt 0 / trap 0 / ret 0", ""}, {"li / call 0 / cpc 0 / 14 0 / 255 0", ""},
		// Whether one can be come to is not asked.
		{"ret / li / jmp 1", "1"}, {twoRounds, "1 2 8"},
	} {
		l := code(c.code)
		checkTruths(t, "8.3: Heads of "+c.code, flow.Heads(l), len(l), list(c.want))
	}
}
