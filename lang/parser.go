package lang

// maxDeep is how many blocks, brackets and signs may be in one another.
const maxDeep = 20

// parser goes through the tokens, of which the last one is the text's end.
type parser struct {
	tokens []token
	at     int
	deep   int
	err    error
}

// parse answers the program that the tokens are, or tells at which of them they are none any more.
func parse(tokens []token) (*program, error) {
	p := parser{tokens: tokens}
	tree := p.program()
	if p.err != nil {
		return nil, p.err
	}
	return tree, nil
}

// fail keeps the first token that is wrong. It goes to the end at once: nothing more is read then, and each loop ends.
func (p *parser) fail() {
	if p.err == nil {
		p.err = &wrong{line: p.tokens[p.at].line, at: p.at, why: errLang}
	}
	p.at = len(p.tokens) - 1
}

// is tells whether one of some keywords or signs is at hand.
func (p *parser) is(marks ...string) bool {
	t := p.tokens[p.at]
	for _, mark := range marks {
		if t.kind == aMark && t.text == mark {
			return true
		}
	}
	return false
}

// have goes by a keyword or sign, if it is at hand.
func (p *parser) have(mark string) bool {
	if !p.is(mark) {
		return false
	}
	p.at++
	return true
}

// must goes by a keyword or sign that has to be at hand.
func (p *parser) must(mark string) {
	if !p.have(mark) {
		p.fail()
	}
}

// mark goes by the keyword or sign at hand, and answers it.
func (p *parser) mark() string {
	p.at++
	return p.tokens[p.at-1].text
}

// deeper goes by a keyword or sign that has to be at hand, and behind which all is one deeper.
func (p *parser) deeper(mark string) {
	if p.deep == maxDeep {
		p.fail()
		return
	}
	p.must(mark)
	p.deep++
}

// shut goes by the sign that ends what is deeper.
func (p *parser) shut(mark string) {
	p.must(mark)
	p.deep--
}

func (p *parser) name() ident {
	t := p.tokens[p.at]
	if t.kind != aName {
		p.fail()
		return ident{}
	}
	p.at++
	return ident{t.text, p.at - 1}
}

func (p *parser) number() number {
	t := p.tokens[p.at]
	if t.kind != aNumber {
		p.fail()
		return number{}
	}
	p.at++
	return number{t.n, p.at - 1}
}

// ahead tells whether a name and a sign behind it are at hand.
func (p *parser) ahead(mark string) bool {
	if p.tokens[p.at].kind != aName {
		return false
	}
	behind := p.tokens[p.at+1]
	return behind.kind == aMark && behind.text == mark
}
