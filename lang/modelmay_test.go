package lang_test

import (
	"slices"
	"strings"

	"paddock/api"
)

func has(row string, word string) bool { return strings.Contains(row, " "+word+" ") }

// local is a param or let: of a region, if it is a param for one.
type local struct {
	name, use, region string
}

// may asks 15.3 of a program.
type may struct {
	l       []piece
	tree    *node
	visible []local
	head    []*node // uses
	found   []found
}

// found is a thing that is wrong, at a token; rank is its place in the order of 15.3.
type found struct {
	at, rank int
}

const (
	known = iota
	sort
	bound
	room
)

var ranked = []api.Errno{api.ErrKnown, api.ErrSort, api.ErrBound, api.ErrRoom}

// firstWrong tells the first thing that is wrong: its error and its token; OK, if nothing is.
func firstWrong(l []piece, tree *node) (api.Errno, int) {
	m := &may{l: l, tree: tree}
	m.program()
	if len(m.found) == 0 {
		return api.OK, 0
	}
	first := slices.MinFunc(m.found, func(a, b found) int { return 10*(a.at-b.at) + a.rank - b.rank })
	return ranked[first.rank], first.at
}

func (m *may) wrong(is bool, at int, rank int) {
	if is {
		m.found = append(m.found, found{at, rank})
	}
}

// declared are the names of regions, compartments and functions, in the order of the text.
func declared(tree *node) []*node {
	var l []*node
	for _, k := range tree.kids {
		l = append(l, k.of("name"))
		for _, f := range k.all("fn") {
			l = append(l, f.of("name"))
		}
	}
	return l
}

func functions(tree *node) []*node {
	var l []*node
	for _, c := range tree.all("comp") {
		l = append(l, c.all("fn")...)
	}
	return l
}

func named(l []*node, name string) *node {
	for _, n := range l {
		if n.of("name").text == name {
			return n
		}
	}
	return nil
}

func (m *may) region(name string) *node { return named(m.tree.all("region"), name) }

func (m *may) program() {
	names := declared(m.tree)
	for k, n := range names {
		same := func(x *node) bool { return x.text == n.text }
		m.wrong(slices.ContainsFunc(names[:k], same), n.at, known)
	}
	for k, r := range m.tree.all("region") {
		m.wrong(k >= 8, r.of("name").at, room)
		size := numberOf(r.of("number").text)
		m.wrong(size < 1 || size > 512, r.of("number").at, bound)
	}
	for k, f := range functions(m.tree) {
		m.wrong(k >= 16, f.of("name").at, room)
	}
	for k, c := range m.tree.all("comp") {
		m.wrong(k >= 4, c.of("name").at, room)
		m.comp(c)
	}
}

func (m *may) comp(c *node) {
	m.head = c.all("use")
	for k, u := range m.head {
		n := u.of("name")
		m.wrong(m.region(n.text) == nil || named(m.head[:k], n.text) != nil, n.at, known)
		m.wrong(k >= 3, n.at, room)
	}
	open, shut := c.of("open").at, c.of("shut").at
	m.wrong(open+151 < shut, open+151, room)
	for _, f := range c.all("fn") {
		for _, p := range f.all("param") {
			m.fresh(p.of("name"))
			v := local{name: p.of("name").text}
			if u := p.of("use"); u != nil {
				m.wrong(m.region(u.of("name").text) == nil, u.of("name").at, known)
				v.use, v.region = u.text, u.of("name").text
			}
			m.visible = append(m.visible, v)
		}
		m.block(f.of("block"))
		m.visible = nil
	}
}

func (m *may) fresh(n *node) {
	m.wrong(m.region(n.text) != nil || m.local(n.text) != nil, n.at, known)
	m.wrong(len(m.visible) >= 5, n.at, room)
}

func (m *may) local(name string) *local {
	for k := range m.visible {
		if m.visible[k].name == name {
			return &m.visible[k]
		}
	}
	return nil
}

// meaning is what a name is here: a local, or a region of the head as one; nil, if it is not known.
func (m *may) meaning(name string) *local {
	if v := m.local(name); v != nil {
		return v
	}
	if u := named(m.head, name); u != nil {
		return &local{name, u.text, name}
	}
	return nil
}

func (m *may) block(b *node) {
	count := len(m.visible)
	for _, s := range b.kids {
		m.stmt(s)
	}
	m.visible = m.visible[:count]
}

func (m *may) stmt(s *node) {
	switch s.kind {
	case "let":
		m.fresh(s.kids[0])
		m.value(s.kids[1])
		m.visible = append(m.visible, local{name: s.kids[0].text})
	case "set":
		m.name(s.kids[0])
		m.value(s.kids[1])
	case "store":
		m.element(s, true)
		m.high(s.kids[1], 6)
		m.whole(s.kids[2], 5)
	case "do":
		m.call(s.kids[0])
	case "trap":
		m.wrong(numberOf(s.kids[0].text) > 255, s.kids[0].at, bound)
	default:
		m.whole(s.kids[0], 6)
		for _, k := range s.kids[1:] {
			if k.kind == "block" {
				m.block(k)
			} else {
				m.wrong(numberOf(k.text) > 255, k.at, bound)
			}
		}
	}
}

func (m *may) value(v *node) {
	if v.kind == "call" {
		m.call(v)
	} else {
		m.whole(v, 6)
	}
}

// name is one in an expr, or ahead of `=`.
func (m *may) name(n *node) {
	v := m.meaning(n.text)
	m.wrong(v == nil, n.at, known)
	m.wrong(v != nil && v.use != "", n.at, sort)
}

// element is `NAME [ expr ]`, perhaps with a `=` behind it.
func (m *may) element(x *node, stored bool) {
	n := x.kids[0]
	v := m.meaning(n.text)
	m.wrong(v == nil, n.at, known)
	m.wrong(v != nil && v.use == "", n.at, sort)
	m.wrong(stored && v != nil && v.use == "reads", n.at, sort)
	m.expr(x.kids[1])
	if v == nil || v.use == "" {
		return
	}
	if r := m.region(v.region); r != nil && x.kids[1].kind == "number" {
		m.wrong(numberOf(x.kids[1].text) >= numberOf(r.of("number").text), x.kids[1].at, bound)
	}
}

func (m *may) whole(e *node, most int) {
	m.expr(e)
	m.high(e, most)
}

func (m *may) high(e *node, most int) { m.wrong(height(e) > most, e.at, room) }

func (m *may) expr(e *node) {
	switch e.kind {
	case "name":
		m.name(e)
	case "element":
		m.element(e, false)
	default:
		for _, k := range e.kids {
			m.expr(k)
		}
	}
}

func height(e *node) int {
	switch e.kind {
	case "pair":
		return max(height(e.kids[0]), 1+height(e.kids[1]))
	case "element":
		return height(e.kids[1])
	case "bracket", "-", "!":
		return height(e.kids[0])
	}
	return 1
}

func (m *may) call(c *node) {
	f := named(functions(m.tree), c.kids[0].text)
	m.wrong(f == nil, c.kids[0].at, known)
	args := c.kids[1:]
	if f == nil {
		return
	}
	params := f.all("param")
	m.wrong(len(args) != len(params), c.kids[0].at, sort)
	for k, a := range args[:min(len(args), len(params))] {
		u := params[k].of("use")
		if u == nil || m.region(u.of("name").text) == nil {
			m.whole(a, 7-k)
			continue
		}
		m.lent(a, u)
	}
}

// lent is an arg for a param with `uses` or `reads`. Of the names in it those that are not known are wrong as in any expr.
func (m *may) lent(a *node, u *node) {
	v := m.meaning(a.text)
	fits := a.kind == "name" && v != nil && v.region == u.of("name").text && (u.text == "reads" || v.use == "uses")
	m.wrong(!fits, a.at, sort)
	m.knownIn(a)
}

func (m *may) knownIn(e *node) {
	m.wrong(e.kind == "name" && m.meaning(e.text) == nil, e.at, known)
	for _, k := range e.kids {
		m.knownIn(k)
	}
}
