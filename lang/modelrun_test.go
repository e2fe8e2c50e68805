package lang_test

import (
	"paddock/api"
)

// story is what a run does by 15.5 and 15.6, and how many units of work it took.
type story struct {
	end     api.End
	value   uint64
	out     []uint64
	touches []api.Touch
	units   int
}

// teller does a program's statements. It gives up (Running) behind so many units.
type teller struct {
	story
	tree   *node
	places map[string]place
	memory map[uint64]byte
	inputs []uint64
	calls  int
	most   int
}

// place is where a region lies.
type place struct {
	base, size, count uint64
}

// over ends a run.
type over struct{}

func placesOf(tree *node) map[string]place {
	places := map[string]place{}
	at := uint64(0)
	for _, r := range tree.all("region") {
		p := place{base: at, size: 1, count: uint64(numberOf(r.of("number").text))}
		if r.text == "words" {
			p.size = 8
		}
		places[r.of("name").text] = p
		for at += p.size * p.count; at%16 != 0; at++ {
		}
	}
	return places
}

// told is the story of a run from a gate that can be an entry.
func told(tree *node, gate int, args []uint64, inputs []uint64, most int) story {
	t := &teller{tree: tree, places: placesOf(tree), memory: map[uint64]byte{}, inputs: inputs, most: most}
	t.run(functions(tree)[gate], args)
	return t.story
}

func (t *teller) run(f *node, args []uint64) {
	defer func() {
		if r := recover(); r != nil {
			if _, is := r.(over); !is {
				panic(r)
			}
		}
	}()
	env := &env{integers: map[string]uint64{}, regions: map[string]string{}}
	for k, p := range f.all("param") {
		env.integers[p.of("name").text] = args[k]
	}
	t.finish(api.Halted, t.function(f, env))
}

func (t *teller) finish(e api.End, value uint64) {
	t.end, t.value = e, value
	panic(over{})
}

func (t *teller) unit() {
	if t.units == t.most {
		t.finish(api.Running, 0)
	}
	t.units++
}

// env is what names are, in a function. (A let that is not visible any more is asked by nobody.)
type env struct {
	integers map[string]uint64
	regions  map[string]string // params for regions
}

func (e *env) region(name string) string {
	if r, is := e.regions[name]; is {
		return r
	}
	return name
}

func (t *teller) function(f *node, e *env) uint64 {
	t.unit()
	value, _ := t.block(f.of("block"), e)
	return value
}

// block tells, too, whether there was a return.
func (t *teller) block(b *node, e *env) (uint64, bool) {
	for _, s := range b.kids {
		t.unit()
		if value, back := t.stmt(s, e); back {
			return value, true
		}
	}
	return 0, false
}

func (t *teller) stmt(s *node, e *env) (uint64, bool) {
	switch s.kind {
	case "let", "set":
		e.integers[s.kids[0].text] = t.given(s.kids[1], e)
	case "store":
		at, size := t.element(s, e)
		t.store(at, size, t.expr(s.kids[2], e))
	case "do":
		t.given(s.kids[0], e)
	case "if":
		if t.expr(s.kids[0], e) != 0 {
			return t.block(s.kids[1], e)
		}
		if len(s.kids) > 2 {
			return t.block(s.kids[2], e)
		}
	case "while":
		for t.asked(s.kids[0], e) != 0 {
			if value, back := t.block(s.kids[1], e); back {
				return value, true
			}
		}
	case "out":
		t.out = append(t.out, t.expr(s.kids[0], e))
	case "need":
		if t.expr(s.kids[0], e) == 0 {
			t.finish(api.Guarded, uint64(numberOf(s.kids[1].text)))
		}
	case "trap":
		t.finish(api.Trapped, uint64(numberOf(s.kids[0].text)))
	case "return":
		return t.expr(s.kids[0], e), true
	}
	return 0, false
}

func (t *teller) asked(x *node, e *env) uint64 {
	t.unit()
	return t.expr(x, e)
}

// given is that of an expr or a call.
func (t *teller) given(v *node, e *env) uint64 {
	if v.kind != "call" {
		return t.expr(v, e)
	}
	f := named(functions(t.tree), v.kids[0].text)
	inner := &env{integers: map[string]uint64{}, regions: map[string]string{}}
	for k, p := range f.all("param") {
		name := p.of("name").text
		if p.of("use") == nil {
			inner.integers[name] = t.expr(v.kids[1+k], e)
			continue
		}
		t.unit()
		inner.regions[name] = e.region(v.kids[1+k].text)
	}
	if t.calls == api.MaxDepth {
		t.finish(api.Overflow, 0)
	}
	t.calls++
	value := t.function(f, inner)
	t.calls--
	return value
}

// element is the address and the size of one, which is within its region.
func (t *teller) element(x *node, e *env) (uint64, uint64) {
	p := t.places[e.region(x.kids[0].text)]
	n := t.expr(x.kids[1], e)
	if n >= p.count {
		t.finish(api.Guarded, 255)
	}
	return p.base + n*p.size, p.size
}

func (t *teller) store(at uint64, size uint64, value uint64) {
	t.touches = append(t.touches, api.Touch{Store: true, Addr: at, Size: size})
	for k := range size {
		t.memory[at+k] = byte(value >> (8 * k))
	}
}

func (t *teller) load(at uint64, size uint64) uint64 {
	t.touches = append(t.touches, api.Touch{Addr: at, Size: size})
	value := uint64(0)
	for k := range size {
		value |= uint64(t.memory[at+k]) << (8 * k)
	}
	return value
}

func (t *teller) expr(x *node, e *env) uint64 {
	if x.kind == "bracket" {
		return t.expr(x.kids[0], e)
	}
	t.unit()
	switch x.kind {
	case "number":
		return uint64(numberOf(x.text))
	case "in":
		if len(t.inputs) == 0 {
			t.finish(api.Starved, 0)
		}
		n := t.inputs[0]
		t.inputs = t.inputs[1:]
		return n
	case "name":
		return e.integers[x.text]
	case "element":
		at, size := t.element(x, e)
		return t.load(at, size)
	case "-":
		return -t.expr(x.kids[0], e)
	case "!":
		return bit(t.expr(x.kids[0], e) == 0)
	}
	left := t.expr(x.kids[0], e)
	return reckoned(x.text, left, t.expr(x.kids[1], e))
}

func bit(is bool) uint64 {
	if is {
		return 1
	}
	return 0
}

func reckoned(sign string, a uint64, b uint64) uint64 {
	switch sign {
	case "+":
		return a + b
	case "-":
		return a - b
	case "*":
		return a * b
	case "&":
		return a & b
	case "|":
		return a | b
	case "^":
		return a ^ b
	case "<<":
		return a << (b % 64)
	case ">>":
		return a >> (b % 64)
	case "==":
		return bit(a == b)
	case "!=":
		return bit(a != b)
	case "<":
		return bit(a < b)
	case "<=":
		return bit(a <= b)
	case ">":
		return bit(a > b)
	}
	return bit(a >= b)
}
