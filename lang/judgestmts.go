package lang

func (j *judge) block(l []stmt) {
	defer j.leave(j.enter(j.blockNames))
	for _, s := range l {
		s.judge(j)
	}
}

// judge makes the name visible behind the statement alone.
func (s *letStmt) judge(j *judge) {
	s.is = j.fresh(s.name)
	j.value(s.value)
	j.add(s.name.text, s.is)
}

func (s *setStmt) judge(j *judge) {
	s.is = j.known(s.name.text, s.name.at)
	j.wrongIf(s.is.region != nil, s.name.at, errSort)
	j.value(s.value)
}

func (s *storeStmt) judge(j *judge) {
	j.element(&s.element)
	j.wrongIf(s.is.region != nil && !s.is.stores, s.name.at, errSort)
	j.high(s.index, maxHeight)
	j.whole(s.value, maxStoredHeight)
}

func (s *callStmt) judge(j *judge) {
	j.call(s.call)
}

func (s *ifStmt) judge(j *judge) {
	j.whole(s.asked, maxHeight)
	j.block(s.then)
	j.block(s.less)
}

func (s *whileStmt) judge(j *judge) {
	j.whole(s.asked, maxHeight)
	j.block(s.body)
}

func (s *outStmt) judge(j *judge) {
	j.whole(s.value, maxHeight)
}

func (s *needStmt) judge(j *judge) {
	j.whole(s.asked, maxHeight)
	j.code(s.code)
}

func (s *trapStmt) judge(j *judge) {
	j.code(s.code)
}

func (s *returnStmt) judge(j *judge) {
	j.whole(s.value, maxHeight)
}

func (j *judge) code(c number) {
	j.wrongIf(c.n > maxCode, c.at, errBound)
}

func (j *judge) value(v value) {
	if v.call != nil {
		j.call(v.call)
		return
	}
	j.whole(v.expr, maxHeight)
}

// call leaves the args, if the name is wrong already: they stand behind it.
func (j *judge) call(c *call) {
	c.to = j.functions[c.name.text]
	if c.to == nil {
		j.wrong(c.name.at, errKnown)
		return
	}
	if len(c.args) != len(c.to.params) {
		j.wrong(c.name.at, errSort)
		return
	}
	for k, arg := range c.args {
		j.arg(arg, k, c.to.params[k])
	}
}

// arg looks at one for a param that may stand behind, and whose region may be none.
func (j *judge) arg(arg expr, ahead int, p param) {
	if p.lent == nil || p.lent.is == nil {
		j.whole(arg, maxArgHeight-ahead)
		return
	}
	name, just := arg.(*nameExpr)
	if !just {
		arg.judge(j)
		j.wrong(arg.first(), errSort)
		return
	}
	name.is = j.known(name.name, name.at)
	fits := name.is.region == p.lent.is && (name.is.stores || !p.lent.stores)
	j.wrongIf(!fits, name.at, errSort)
}
