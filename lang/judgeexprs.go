package lang

// whole looks at an expr that is in no other one.
func (j *judge) whole(e expr, most int) {
	e.judge(j)
	j.high(e, most)
}

func (j *judge) high(e expr, most int) {
	j.wrongIf(e.height() > most, e.first(), errRoom)
}

func (e *numberExpr) judge(j *judge) {}

func (e *inputExpr) judge(j *judge) {}

func (e *nameExpr) judge(j *judge) {
	e.is = j.known(e.name, e.at)
	j.wrongIf(e.is.region != nil, e.at, errSort)
}

func (e *elementExpr) judge(j *judge) {
	j.element(&e.element)
}

func (e *bracketExpr) judge(j *judge) {
	e.inner.judge(j)
}

func (e *signedExpr) judge(j *judge) {
	e.inner.judge(j)
}

func (e *pairExpr) judge(j *judge) {
	e.left.judge(j)
	e.right.judge(j)
}

// element does not ask whether the name is known at all: if not, that counts rather than its sort.
func (j *judge) element(x *element) {
	x.is = j.known(x.name.text, x.name.at)
	x.index.judge(j)
	if x.is.region == nil {
		j.wrong(x.name.at, errSort)
		return
	}
	if n, all := x.index.(*numberExpr); all {
		j.wrongIf(n.n >= x.is.region.size.n, n.at, errBound)
	}
}

func (e *numberExpr) height() int { return 1 }

func (e *inputExpr) height() int { return 1 }

func (e *nameExpr) height() int { return 1 }

func (e *elementExpr) height() int { return e.index.height() }

func (e *bracketExpr) height() int { return e.inner.height() }

func (e *signedExpr) height() int { return e.inner.height() }

func (e *pairExpr) height() int {
	return max(e.left.height(), 1+e.right.height())
}
