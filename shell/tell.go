package shell

import (
	"strconv"
	"strings"

	"paddock/api"
)

// cutLine stands behind what there is room for, if there is more.
const cutLine = "cut\n"

// tell tells a line of some words.
func (s *shell) tell(words ...string) {
	s.told.WriteString(strings.Join(words, " ") + "\n")
}

// tellInner tells one that belongs to the line above it.
func (s *shell) tellInner(words ...string) {
	s.told.WriteString("  ")
	s.tell(words...)
}

// refuse tells of an order that is no command, so that nothing is done.
func (s *shell) refuse(e api.Errno) {
	s.tell("error", number(e))
}

// answer tells the first line of what comes of a command.
func (s *shell) answer(g given, words ...string) {
	s.tell(append(g.lead(), words...)...)
}

// fail tells the only line of a command of which nothing comes.
func (s *shell) fail(g given, e api.Errno, words ...string) {
	s.answer(g, append([]string{"error", number(e)}, words...)...)
}

// lead is what an answer begins with.
func (g given) lead() []string {
	l := []string{g.word, g.name}
	switch g.word {
	case "run", "slow", "back", "cost", "grant":
		l = append(l, number(g.gate))
	}
	return l
}

// number is a number that is not below 0, in digits.
func number[T ~int | ~uint8 | ~uint64](n T) string {
	return strconv.FormatUint(uint64(n), 10)
}

func numbers(l []uint64) []string {
	var words []string
	for _, n := range l {
		words = append(words, number(n))
	}
	return words
}

// withinRoom is what is told, as far as an answer has room for it.
func withinRoom(told string) string {
	if len(told) <= api.MaxAnswer {
		return told
	}
	room := told[:api.MaxAnswer-len(cutLine)]
	return room[:strings.LastIndex(room, "\n")+1] + cutLine
}
