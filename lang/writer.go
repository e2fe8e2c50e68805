package lang

import "paddock/api"

// Which register is for what. r0 is never written, so that it stays 0; the roots follow one another from the first register that may be one; what is not worked out yet, args, and what comes of a call are between.
const (
	zeroReg  = 0
	freeReg  = 1
	firstLet = api.Roots + maxHead
)

func rootReg(k int) int { return api.Roots + k }

func nameReg(k int) int { return firstLet + k }

func argReg(k int) int { return freeReg + k }

// outside is the code of the guards of elements.
const outside = 255

// writer writes the code of a compartment.
type writer struct {
	code []api.Inst
}

func (w *writer) add(i api.Inst) {
	w.code = append(w.code, i)
}

// put writes an instruction that has registers alone.
func (w *writer) put(op api.Op, a, b, c int) {
	w.add(api.Inst{Op: op, A: a, B: b, C: c})
}

// skip writes a jump over what follows, for where a register is 0; where it goes is told by here.
func (w *writer) skip(reg int) int {
	w.add(api.Inst{Op: api.BEQ, A: reg, B: zeroReg})
	return len(w.code) - 1
}

// here lets a jump go to the instruction that comes next.
func (w *writer) here(jump int) {
	w.code[jump].Imm = len(w.code)
}

// function takes the params away from where args and what comes of calls will be. Its end is that of one without a return.
func (w *writer) function(f *function) {
	for k := range f.params {
		w.put(api.MOV, nameReg(k), argReg(k), 0)
	}
	w.block(f.body)
	w.put(api.MOV, argReg(0), zeroReg, 0)
	w.add(api.Inst{Op: api.RET})
}

func (w *writer) block(l []stmt) {
	for _, s := range l {
		s.write(w)
	}
}
