package lang

func (p *parser) block() []stmt {
	p.deeper("{")
	var l []stmt
	for p.beginsStmt() {
		l = append(l, p.stmt())
	}
	p.shut("}")
	return l
}

func (p *parser) beginsStmt() bool {
	return p.tokens[p.at].kind == aName || p.is("let", "if", "while", "out", "need", "trap", "return")
}

// stmt reads one of those that begin with a name, or with a keyword.
func (p *parser) stmt() stmt {
	if p.tokens[p.at].kind == aName {
		return p.named()
	}
	switch p.mark() {
	case "let":
		name := p.name()
		p.must("=")
		return &letStmt{name: name, value: p.value()}
	case "if":
		return p.branch()
	case "while":
		asked := p.expr()
		return &whileStmt{asked: asked, body: p.block()}
	case "out":
		return &outStmt{value: p.expr()}
	case "need":
		asked := p.expr()
		return &needStmt{asked: asked, code: p.number()}
	case "trap":
		return &trapStmt{code: p.number()}
	}
	return &returnStmt{value: p.expr()}
}

func (p *parser) named() stmt {
	if p.ahead("(") {
		return &callStmt{call: p.call()}
	}
	if p.ahead("[") {
		to := p.element()
		p.must("=")
		return &storeStmt{element: to, value: p.expr()}
	}
	name := p.name()
	p.must("=")
	return &setStmt{name: name, value: p.value()}
}

func (p *parser) branch() stmt {
	s := &ifStmt{asked: p.expr()}
	s.then = p.block()
	if p.have("else") {
		s.less = p.block()
	}
	return s
}

func (p *parser) value() value {
	if p.ahead("(") {
		return value{call: p.call()}
	}
	return value{expr: p.expr()}
}

func (p *parser) call() *call {
	c := &call{name: p.name()}
	p.deeper("(")
	if !p.is(")") {
		c.args = append(c.args, p.expr())
		for p.have(",") {
			c.args = append(c.args, p.expr())
		}
	}
	p.shut(")")
	return c
}
