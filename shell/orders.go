package shell

import (
	"iter"
	"strings"
)

// order is a command as it stands in a script.
type order struct {
	tokens []string // one at least
	text   string   // that of its block
	open   bool     // its block has no end
}

// orders goes through the commands of a script.
func orders(script string) iter.Seq[order] {
	return func(yield func(order) bool) {
		var o order
		block := 0 // where the block of o begins
		for at, line := range lines(script) {
			tokens := cut(line)
			switch {
			case o.open && isEnd(tokens):
				o.text, o.open = script[block:at], false
			case o.open || len(tokens) == 0:
				continue
			default:
				o = order{tokens: tokens, open: beginsBlock(tokens[0])}
				block = at + len(line) + 1
			}
			if !o.open && !yield(o) {
				return
			}
		}
		if o.open {
			yield(o)
		}
	}
}

// lines goes through the lines of a script, each with the place at which it begins.
func lines(script string) iter.Seq2[int, string] {
	return func(yield func(int, string) bool) {
		at := 0
		for line := range strings.SplitSeq(script, "\n") {
			if !yield(at, line) {
				return
			}
			at += len(line) + 1
		}
	}
}

// cut cuts a line into tokens; a remark is left out.
func cut(line string) []string {
	said, _, _ := strings.Cut(line, ";")
	return strings.FieldsFunc(said, isBlank)
}

func isBlank(r rune) bool {
	return r == ' ' || r == '\t'
}

func isEnd(tokens []string) bool {
	return len(tokens) == 1 && tokens[0] == "end"
}

func beginsBlock(word string) bool {
	return word == "program" || word == "source"
}
