package lang

func (p *parser) expr() expr {
	at := p.at
	left := p.sum()
	if !p.is("==", "!=", "<", "<=", ">", ">=") {
		return left
	}
	sign := p.mark()
	return &pairExpr{place: place{at}, sign: sign, left: left, right: p.sum()}
}

func (p *parser) sum() expr {
	at := p.at
	left := p.term()
	for p.is("+", "-", "|", "^") {
		sign := p.mark()
		left = &pairExpr{place: place{at}, sign: sign, left: left, right: p.term()}
	}
	return left
}

func (p *parser) term() expr {
	at := p.at
	left := p.factor()
	for p.is("*", "&", "<<", ">>") {
		sign := p.mark()
		left = &pairExpr{place: place{at}, sign: sign, left: left, right: p.factor()}
	}
	return left
}

func (p *parser) factor() expr {
	at := place{p.at}
	switch {
	case p.tokens[p.at].kind == aNumber:
		return &numberExpr{place: at, n: p.number().n}
	case p.ahead("["):
		return &elementExpr{place: at, element: p.element()}
	case p.is("("):
		return &bracketExpr{place: at, inner: p.within("(", ")")}
	case p.is("-", "!"):
		return p.signed()
	case p.have("in"):
		return &inputExpr{place: at}
	}
	return &nameExpr{place: at, name: p.name().text}
}

// within reads the expr between two brackets.
func (p *parser) within(open string, shut string) expr {
	p.deeper(open)
	e := p.expr()
	p.shut(shut)
	return e
}

func (p *parser) element() element {
	name := p.name()
	return element{name: name, index: p.within("[", "]")}
}

// signed reads a factor that ends what is deeper by itself.
func (p *parser) signed() expr {
	e := &signedExpr{place: place{p.at}, sign: p.tokens[p.at].text}
	p.deeper(e.sign)
	e.inner = p.factor()
	p.deep--
	return e
}
