package asm

import (
	"strconv"
	"strings"

	"paddock/api"
	"paddock/instr"
)

// permLetters has a letter for each permission, from the lowest bit on.
const permLetters = "rwcdxsu"

// permsOf tells the permissions that a NAME has the letters of; false: it has others, or one twice.
func permsOf(name string) (api.Perms, bool) {
	var perms api.Perms
	for _, letter := range name {
		at := strings.IndexRune(permLetters, letter)
		if at < 0 || perms&(1<<at) != 0 {
			return 0, false
		}
		perms |= 1 << at
	}
	return perms, true
}

func permsText(perms api.Perms) string {
	if perms == 0 {
		return "-"
	}
	var text []rune
	for at, letter := range permLetters {
		if perms&(1<<at) != 0 {
			text = append(text, letter)
		}
	}
	return string(text)
}

func registerName(n int) string {
	return "r" + strconv.Itoa(n)
}

// operand is an operand of an instruction: the letter that it has in the shape, and the field in which it lies.
type operand struct {
	letter rune
	field  *int
}

// operands are those of an instruction's operation, in the order of a text.
func operands(i *api.Inst) []operand {
	var l []operand
	registers := []*int{&i.A, &i.B, &i.C}
	for _, letter := range instr.Shape(i.Op) {
		field := &i.Imm
		switch {
		case letter == 'r':
			field, registers = registers[0], registers[1:]
		case letter == 'c' && i.Op != api.TRAP:
			field = &i.C
		}
		l = append(l, operand{letter, field})
	}
	return l
}
