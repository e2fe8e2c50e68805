package asm

import (
	"math"
	"strconv"
	"strings"

	"paddock/api"
	"paddock/instr"
)

// maxSeal is the greatest seal that a text may tell. (Whether it may be so great the image is asked.)
const maxSeal = 255

// line is what is left of a line's tokens; they are taken from its front. It keeps the first error; behind that all that is taken is nothing.
type line struct {
	number int
	tokens []token
	err    api.Errno
}

func (l *line) fail(e api.Errno) {
	if l.err == api.OK {
		l.err = e
	}
}

// comes tells whether a token of a kind comes next.
func (l *line) comes(k kind) bool {
	return l.err == api.OK && len(l.tokens) > 0 && l.tokens[0].kind == k
}

// take takes the text of the next token, which must be of a kind.
func (l *line) take(k kind) string {
	if !l.comes(k) {
		l.fail(api.ErrForm)
		return ""
	}
	text := l.tokens[0].text
	l.tokens = l.tokens[1:]
	return text
}

// word is the NAME that comes next, which is not taken; it is empty, if none comes.
func (l *line) word() string {
	if !l.comes(aName) {
		return ""
	}
	return l.tokens[0].text
}

// must takes a word that must be.
func (l *line) must(word string) {
	if l.take(aName) != word {
		l.fail(api.ErrForm)
	}
}

// end asks that no token is left.
func (l *line) end() {
	if len(l.tokens) > 0 {
		l.fail(api.ErrForm)
	}
}

// within takes a NUMBER from -below to above. One below 0 goes round.
func (l *line) within(below, above uint64) uint64 {
	text := l.take(aNumber)
	if l.err != api.OK {
		return 0
	}
	n, fits := size(text)
	minus := strings.HasPrefix(text, "-")
	if !fits || minus && n > below || !minus && n > above {
		l.fail(api.ErrNumber)
		return 0
	}
	if minus {
		return -n
	}
	return n
}

// size is how great a NUMBER is, whatever its sign; false: that is above what 64 bits hold.
func size(number string) (uint64, bool) {
	row, base := strings.TrimPrefix(number, "-"), 10
	if hex, is := strings.CutPrefix(number, "0x"); is {
		row, base = hex, 16
	}
	n, err := strconv.ParseUint(row, base, 64)
	return n, err == nil
}

func (l *line) address() uint64 {
	return l.within(0, math.MaxUint64)
}

func (l *line) count() int {
	return int(l.within(0, math.MaxInt32))
}

// operand takes a NUMBER of an instruction, as great as one may be at all.
func (l *line) operand() int {
	return int(l.within(-math.MinInt32, math.MaxInt32))
}

func (l *line) seal() int {
	return int(l.within(0, maxSeal))
}

// data takes bytes that are written by two digits each.
func (l *line) data() string {
	row := l.take(someData)
	b := make([]byte, 0, len(row)/2)
	for at := 0; at < len(row); at += 2 {
		high, low := strings.IndexByte(hexDigits, row[at]), strings.IndexByte(hexDigits, row[at+1])
		b = append(b, byte(high<<4|low))
	}
	return string(b)
}

// named takes a NAME and tells what it means; ErrName, if it means nothing.
func named[T any](l *line, meaning func(name string) (T, bool)) T {
	var nothing T
	name := l.take(aName)
	if l.err != api.OK {
		return nothing
	}
	what, is := meaning(name)
	if !is {
		l.fail(api.ErrName)
		return nothing
	}
	return what
}

func (l *line) register() int {
	return named(l, registerOf)
}

func (l *line) perms() api.Perms {
	if l.comes(aDash) {
		l.take(aDash)
		return 0
	}
	return named(l, permsOf)
}

func (l *line) operation() api.Op {
	return named(l, operationOf)
}

// valueType takes a TYPE.
func (l *line) valueType() api.Type {
	switch l.take(aName) {
	case "int":
		return api.Type{}
	case "cap":
		return api.Type{Cap: true, Base: l.address(), End: l.address(), Lo: l.address(), Hi: l.address(), Perms: l.perms(), Seal: l.seal()}
	}
	l.fail(api.ErrForm)
	return api.Type{}
}

func (l *line) valueTypes() []api.Type {
	var types []api.Type
	for l.comes(aName) {
		types = append(types, l.valueType())
	}
	return types
}

func registerOf(name string) (int, bool) {
	for n := range api.Regs {
		if registerName(n) == name {
			return n, true
		}
	}
	return 0, false
}

func operationOf(name string) (api.Op, bool) {
	op := instr.Find(name)
	return op, op != 0
}
