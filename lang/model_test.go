package lang_test

// A plain reading of the chapter: tokens that are a program by 15.2 become a tree, 15.3 is asked of it word by word, and 15.5 and 15.6 are done on it.

// node is a part of a program: its kind is that of the grammar (of a factor: "number", "in", "name", "element", "bracket", "-", "!"; of two with an operator between: "pair"); at is its first token.
type node struct {
	kind string
	at   int
	text string
	kids []*node
}

type treeMaker struct {
	l  []piece
	at int
}

func treeOf(l []piece) *node {
	m := &treeMaker{l: l}
	n := m.begin("program")
	for m.at < len(l) {
		if m.is("comp") {
			n.add(m.comp())
		} else {
			n.add(m.region())
		}
	}
	return n
}

func (m *treeMaker) begin(kind string) *node { return &node{kind: kind, at: m.at} }

func (n *node) add(kids ...*node) *node {
	n.kids = append(n.kids, kids...)
	return n
}

// of is the first part of a kind, or nil.
func (n *node) of(kind string) *node {
	for _, k := range n.kids {
		if k.kind == kind {
			return k
		}
	}
	return nil
}

// all are the parts of a kind.
func (n *node) all(kind string) []*node {
	var l []*node
	for _, k := range n.kids {
		if k.kind == kind {
			l = append(l, k)
		}
	}
	return l
}

func (m *treeMaker) is(text string) bool { return m.at < len(m.l) && m.l[m.at].text == text }

func (m *treeMaker) behind(text string) bool {
	return m.at+1 < len(m.l) && m.l[m.at].isName() && m.l[m.at+1].text == text
}

func (m *treeMaker) word() string {
	m.at++
	return m.l[m.at-1].text
}

// leaf is a token by itself.
func (m *treeMaker) leaf(kind string) *node {
	n := m.begin(kind)
	n.text = m.word()
	return n
}

func (m *treeMaker) region() *node {
	n := m.leaf("region")
	return n.add(m.leaf("name"), m.leaf("number"))
}

func (m *treeMaker) use() *node {
	n := m.leaf("use")
	return n.add(m.leaf("name"))
}

func (m *treeMaker) comp() *node {
	n := m.leaf("comp")
	n.add(m.leaf("name"))
	for !m.is("{") {
		n.add(m.use())
	}
	n.add(m.leaf("open"))
	for m.is("fn") {
		n.add(m.function())
	}
	return n.add(m.leaf("shut"))
}

func (m *treeMaker) function() *node {
	n := m.leaf("fn")
	n.add(m.leaf("name"))
	for m.word(); !m.is(")"); {
		if m.is(",") {
			m.word()
		}
		p := m.begin("param").add(m.leaf("name"))
		if m.is(":") {
			m.word()
			p.add(m.use())
		}
		n.add(p)
	}
	m.word()
	return n.add(m.block())
}

func (m *treeMaker) block() *node {
	n := m.leaf("block")
	for !m.is("}") {
		n.add(m.stmt())
	}
	m.word()
	return n
}

func (m *treeMaker) stmt() *node {
	if m.behind("(") {
		return m.begin("do").add(m.call())
	}
	if m.l[m.at].isName() {
		n := m.begin("set").add(m.leaf("name"))
		if m.is("[") {
			n.kind = "store"
			m.word()
			n.add(m.expr())
			m.word()
		}
		m.word()
		return n.add(m.value(n.kind == "set"))
	}
	n := m.leaf("")
	n.kind = n.text
	switch n.kind {
	case "let":
		n.add(m.leaf("name"))
		m.word()
		n.add(m.value(true))
	case "trap":
		n.add(m.leaf("number"))
	default:
		n.add(m.expr())
	}
	switch n.kind {
	case "need":
		n.add(m.leaf("number"))
	case "if", "while":
		n.add(m.block())
		if n.kind == "if" && m.is("else") {
			m.word()
			n.add(m.block())
		}
	}
	return n
}

func (m *treeMaker) value(calls bool) *node {
	if calls && m.behind("(") {
		return m.call()
	}
	return m.expr()
}

func (m *treeMaker) call() *node {
	n := m.begin("call").add(m.leaf("name"))
	for m.word(); !m.is(")"); {
		if m.is(",") {
			m.word()
		}
		n.add(m.expr())
	}
	m.word()
	return n
}

// levels are the operators, from those that bind least on.
var levels = []string{" == != < <= > >= ", " + - | ^ ", " * & << >> "}

func (m *treeMaker) expr() *node { return m.level(0) }

func (m *treeMaker) level(k int) *node {
	if k == len(levels) {
		return m.factor()
	}
	n := m.level(k + 1)
	for m.at < len(m.l) && has(levels[k], m.l[m.at].text) {
		n = &node{kind: "pair", at: n.at, text: m.word(), kids: []*node{n}}
		n.add(m.level(k + 1))
	}
	return n
}

func (m *treeMaker) factor() *node {
	switch p := m.l[m.at]; {
	case p.isNumber():
		return m.leaf("number")
	case p.text == "in":
		return m.leaf("in")
	case p.text == "-" || p.text == "!":
		n := m.leaf(p.text)
		return n.add(m.factor())
	case p.text == "(":
		n := m.leaf("bracket")
		n.add(m.expr())
		m.word()
		return n
	case m.behind("["):
		n := m.begin("element").add(m.leaf("name"))
		m.word()
		n.add(m.expr())
		m.word()
		return n
	}
	return m.leaf("name")
}
