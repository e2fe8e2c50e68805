package lang

import "paddock/api"

const (
	maxElements = 512
	maxCode     = 255 // of need and trap
	maxNames    = 5   // that are visible at once
	maxHead     = 3   // regions of a compartment
	maxTokens   = 150 // of a compartment
)

// How high exprs may be: this many registers there are for what is not worked out yet.
const (
	maxHeight       = 6
	maxStoredHeight = 5
	maxArgHeight    = 7 // less one for each arg ahead of it
)

// judge looks whether what is written may be, and finds out what names stand for.
type judge struct {
	scope
	tokens []token
	first  *wrong
}

// judged tells the first thing in a program that may not be.
func judged(p *program, tokens []token) error {
	j := &judge{scope: scope{wide: everywhere(p)}, tokens: tokens}
	for k, r := range p.regions {
		j.region(r, k)
	}
	for k, c := range p.comps {
		j.comp(c, k)
	}
	if j.first != nil {
		return j.first
	}
	return nil
}

// wrong keeps what is wrong at a token, if nothing else counts rather than that.
func (j *judge) wrong(at int, why error) {
	w := &wrong{line: j.tokens[at].line, at: at, why: why}
	if j.first == nil || w.ahead(j.first) {
		j.first = w
	}
}

// wrongIf is for rules that nothing else hangs on.
func (j *judge) wrongIf(is bool, at int, why error) {
	if is {
		j.wrong(at, why)
	}
}

// declare looks at the name of a region, compartment or function, ahead of which there are so many of its kind.
func (j *judge) declare(name ident, ahead int, most int) {
	_, is := j.taken[name.text]
	j.wrongIf(is, name.at, errKnown)
	j.wrongIf(ahead >= most, name.at, errRoom)
	j.taken[name.text] = name.at
}

func (j *judge) region(r *region, ahead int) {
	j.declare(r.name, ahead, api.MaxRegions)
	j.wrongIf(r.size.n < 1 || r.size.n > maxElements, r.size.at, errBound)
}

func (j *judge) comp(c *comp, ahead int) {
	j.declare(c.name, ahead, api.MaxComps)
	head := j.head(c)
	j.wrongIf(c.shut-c.open-1 > maxTokens, c.open+1+maxTokens, errRoom)
	for _, f := range c.functions {
		j.function(f, head)
	}
}

func (j *judge) head(c *comp) headNames {
	head := headNames{}
	for k, u := range c.head {
		_, twice := head[u.region.text]
		j.wrongIf(u.is == nil || twice, u.region.at, errKnown)
		j.wrongIf(k >= maxHead, u.region.at, errRoom)
		head[u.region.text] = thing{reg: rootReg(k), region: u.is, stores: u.stores}
	}
	return head
}

func (j *judge) function(f *function, head headNames) {
	j.declare(f.name, f.gate, api.MaxGates)
	defer j.leave(j.enter(head))
	for _, p := range f.params {
		j.param(p)
	}
	j.block(f.body)
}

func (j *judge) param(p param) {
	t := j.fresh(p.name)
	if u := p.lent; u != nil {
		j.wrongIf(u.is == nil, u.region.at, errKnown)
		t.region, t.stores = u.is, u.stores
	}
	j.add(p.name.text, t)
}

// fresh looks at the name of a param or let, and answers what it stands for, if it is an integer.
func (j *judge) fresh(name ident) thing {
	_, visible := j.find(name.text)
	j.wrongIf(visible || j.regions[name.text] != nil, name.at, errKnown)
	count := j.visible()
	j.wrongIf(count >= maxNames, name.at, errRoom)
	return thing{reg: nameReg(count)}
}

// known answers what a name stands for, at a token.
func (j *judge) known(name string, at int) thing {
	t, is := j.find(name)
	j.wrongIf(!is, at, errKnown)
	return t
}
