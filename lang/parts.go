package lang

func (p *parser) program() *program {
	tree := &program{}
	for p.is("bytes", "words") {
		tree.regions = append(tree.regions, p.region())
	}
	gate := 0
	for more := true; more; more = p.is("comp") {
		c := p.comp()
		for _, f := range c.functions {
			f.gate = gate
			gate++
		}
		tree.comps = append(tree.comps, c)
	}
	if p.tokens[p.at].kind != theEnd {
		p.fail()
	}
	return tree
}

func (p *parser) region() *region {
	words := p.mark() == "words"
	name := p.name()
	return &region{name: name, size: p.number(), words: words}
}

func (p *parser) comp() *comp {
	p.must("comp")
	c := &comp{name: p.name()}
	for p.is("uses", "reads") {
		c.head = append(c.head, p.use())
	}
	c.open = p.at
	p.must("{")
	for more := true; more; more = p.is("fn") {
		c.functions = append(c.functions, p.function())
	}
	c.shut = p.at
	p.must("}")
	return c
}

func (p *parser) use() *use {
	stores := p.mark() == "uses"
	return &use{region: p.name(), stores: stores}
}

func (p *parser) function() *function {
	p.must("fn")
	f := &function{name: p.name()}
	p.deeper("(")
	if !p.is(")") {
		f.params = append(f.params, p.param())
		for p.have(",") {
			f.params = append(f.params, p.param())
		}
	}
	p.shut(")")
	f.body = p.block()
	return f
}

func (p *parser) param() param {
	x := param{name: p.name()}
	if !p.have(":") {
		return x
	}
	if !p.is("uses", "reads") {
		p.fail()
		return x
	}
	x.lent = p.use()
	return x
}
