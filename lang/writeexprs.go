package lang

import "paddock/api"

// hold answers a register that has an expr's value: a name's own one, or the free one.
func (w *writer) hold(e expr, free int) int {
	if name, is := e.(*nameExpr); is {
		return name.is.reg
	}
	e.write(w, free, free)
	return free
}

func (e *numberExpr) write(w *writer, to int, free int) {
	w.add(api.Inst{Op: api.LI, A: to, Imm: e.n})
}

func (e *inputExpr) write(w *writer, to int, free int) {
	w.put(api.IN, to, 0, 0)
}

func (e *nameExpr) write(w *writer, to int, free int) {
	w.put(api.MOV, to, e.is.reg, 0)
}

func (e *elementExpr) write(w *writer, to int, free int) {
	base, offset := w.address(&e.element, free)
	op := api.LB
	if e.is.region.words {
		op = api.LW
	}
	w.add(api.Inst{Op: op, A: to, B: base, Imm: offset})
}

func (e *bracketExpr) write(w *writer, to int, free int) {
	e.inner.write(w, to, free)
}

func (e *signedExpr) write(w *writer, to int, free int) {
	inner := w.hold(e.inner, free)
	if e.sign == "-" {
		w.put(api.SUB, to, zeroReg, inner)
		return
	}
	w.put(api.SEQ, to, inner, zeroReg)
}

func (e *pairExpr) write(w *writer, to int, free int) {
	left := w.hold(e.left, free)
	right := w.hold(e.right, free+1)
	switch e.sign {
	case "<":
		w.put(api.SLT, to, left, right)
	case ">":
		w.put(api.SLT, to, right, left)
	case "<=":
		w.put(api.SLT, to, right, left)
		w.put(api.SEQ, to, to, zeroReg)
	case ">=":
		w.put(api.SLT, to, left, right)
		w.put(api.SEQ, to, to, zeroReg)
	case "!=":
		w.put(api.SEQ, to, left, right)
		w.put(api.SEQ, to, to, zeroReg)
	default:
		w.put(reckons(e.sign), to, left, right)
	}
}

// reckons is the operation that does what a sign says.
func reckons(sign string) api.Op {
	switch sign {
	case "+":
		return api.ADD
	case "-":
		return api.SUB
	case "*":
		return api.MUL
	case "&":
		return api.AND
	case "|":
		return api.OR
	case "^":
		return api.XOR
	case "<<":
		return api.SHL
	case ">>":
		return api.SHR
	}
	return api.SEQ
}

// address answers a register that points to an element, and how far on it is from there. A number is known to be within the region; all else is guarded, and only then is the pointer made of it, so that the checker sees how far it goes.
func (w *writer) address(x *element, free int) (int, int) {
	r := x.is.region
	if n, is := x.index.(*numberExpr); is {
		return x.is.reg, n.n * r.width()
	}
	index := w.hold(x.index, free)
	w.add(api.Inst{Op: api.GLT, A: index, Imm: r.size.n, C: outside})
	for n := 1; n < r.width(); n *= 2 {
		w.put(api.ADD, free, index, index)
		index = free
	}
	w.put(api.CINC, free, x.is.reg, index)
	return free, 0
}
