package lang

import "paddock/api"

func (s *letStmt) write(w *writer) {
	w.value(s.value, s.is.reg)
}

func (s *setStmt) write(w *writer) {
	w.value(s.value, s.is.reg)
}

func (s *storeStmt) write(w *writer) {
	base, offset := w.address(&s.element, freeReg)
	value := w.hold(s.value, freeReg+1)
	op := api.SB
	if s.is.region.words {
		op = api.SW
	}
	w.add(api.Inst{Op: op, A: value, B: base, Imm: offset})
}

func (s *callStmt) write(w *writer) {
	w.call(s.call)
}

func (s *ifStmt) write(w *writer) {
	past := w.skip(w.hold(s.asked, freeReg))
	w.block(s.then)
	if len(s.less) > 0 {
		end := len(w.code)
		w.add(api.Inst{Op: api.JMP})
		w.here(past)
		w.block(s.less)
		past = end
	}
	w.here(past)
}

func (s *whileStmt) write(w *writer) {
	top := len(w.code)
	past := w.skip(w.hold(s.asked, freeReg))
	w.block(s.body)
	w.add(api.Inst{Op: api.JMP, Imm: top})
	w.here(past)
}

func (s *outStmt) write(w *writer) {
	w.put(api.OUT, w.hold(s.value, freeReg), 0, 0)
}

func (s *needStmt) write(w *writer) {
	w.add(api.Inst{Op: api.GGE, A: w.hold(s.asked, freeReg), Imm: 1, C: s.code.n})
}

func (s *trapStmt) write(w *writer) {
	w.add(api.Inst{Op: api.TRAP, Imm: s.code.n})
}

func (s *returnStmt) write(w *writer) {
	s.value.write(w, argReg(0), freeReg)
	w.add(api.Inst{Op: api.RET})
}

// value lays what a name is given in its register.
func (w *writer) value(v value, to int) {
	if v.call == nil {
		v.expr.write(w, to, freeReg)
		return
	}
	w.call(v.call)
	w.put(api.MOV, to, argReg(0), 0)
}

// call lends what is to be read alone without Store, whatever the caller may do.
func (w *writer) call(c *call) {
	for k, arg := range c.args {
		lent := c.to.params[k].lent
		if name, is := arg.(*nameExpr); is && lent != nil && !lent.stores {
			w.add(api.Inst{Op: api.CANDP, A: argReg(k), B: name.is.reg, Imm: int(api.Load)})
			continue
		}
		arg.write(w, argReg(k), argReg(k))
	}
	w.add(api.Inst{Op: api.CALL, Imm: c.to.gate})
}
