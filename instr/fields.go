package instr

import (
	"math"

	"paddock/api"
)

// maxCode is the greatest code of a guard or a trap.
const maxCode = 255

// fieldsRight tells whether each field of an instruction may be so. A field that its shape names is made 0 once it was looked at; what is not 0 in the end is one that must be.
func fieldsRight(i api.Inst) bool {
	registers := 0
	for _, letter := range Shape(i.Op) {
		field := &i.Imm
		switch {
		case letter == 'r':
			field = register(&i, registers)
			registers++
		case letter == 'c' && i.Op != api.TRAP:
			field = &i.C
		}
		if lo, hi := ends(i.Op, letter); *field < lo || *field > hi {
			return false
		}
		*field = 0
	}
	return i == api.Inst{Op: i.Op}
}

// register is the field of an instruction's register: of the first, the second, or the third.
func register(i *api.Inst, n int) *int {
	switch n {
	case 0:
		return &i.A
	case 1:
		return &i.B
	}
	return &i.C
}

// ends are the least and the greatest number that a field may be.
func ends(op api.Op, letter rune) (int, int) {
	switch letter {
	case 'r':
		return 0, api.Regs - 1
	case 'i':
		// A guard's number is held against numbers without a sign.
		if op == api.GLT || op == api.GGE {
			return 0, math.MaxInt32
		}
		return math.MinInt32, math.MaxInt32
	case 'n':
		return 0, api.MaxMem
	case 'p':
		return 0, int(api.AllPerms)
	case 's':
		return 0, api.MaxSeal
	case 'c':
		return 0, maxCode
	}
	return 0, math.MaxInt32
}
