package asm

import (
	"strings"

	"paddock/api"
	"paddock/instr"
)

// part is how far a text was read, by the last line that has tokens.
type part int

const (
	atStart   part = iota
	inRegions      // behind depth, or a region of bytes
	inSlots        // behind a region of slots, or a slot
	inRoots        // behind comp, or a root
	inCode         // behind labels, or an instruction
	inGates
)

// parser makes an image of a text, line by line.
type parser struct {
	m      api.Image
	part   part
	labels []map[string]int // of each compartment
	gates  map[string]int
	wanted []wanted
}

// wanted is a name that is used, maybe ahead of where it stands: its number is laid where it belongs when all lines have been read.
type wanted struct {
	line  int
	name  string
	names map[string]int
	lay   func(n int)
}

// text reads all lines; it tells the first error, and its line.
func (p *parser) text(text string) (api.Errno, int) {
	for n, s := range strings.Split(text, "\n") {
		l := line{number: n + 1}
		p.line(&l, s)
		if l.err != api.OK {
			return l.err, l.number
		}
	}
	if p.part == atStart {
		return api.ErrForm, 1
	}
	return api.OK, 0
}

func (p *parser) line(l *line, s string) {
	t, right := tokens(s)
	if !right {
		l.fail(api.ErrToken)
		return
	}
	if len(t) > 0 {
		l.tokens = t
		p.read(l)
		l.end()
	}
}

func (p *parser) read(l *line) {
	switch l.word() {
	case "depth":
		p.enter(l, atStart, atStart, inRegions, p.depth)
	case "region":
		p.enter(l, inRegions, inSlots, inRegions, p.region)
	case "slot":
		p.enter(l, inSlots, inSlots, inSlots, p.slot)
	case "comp":
		p.enter(l, inRegions, inCode, inRoots, p.comp)
	case "root":
		p.enter(l, inRoots, inRoots, inRoots, p.root)
	case "gate":
		p.enter(l, inRegions, inGates, inGates, p.gate)
	default:
		p.enter(l, inRoots, inCode, inCode, p.code)
	}
}

// enter reads a line that may stand where the text is in one of the parts from first to last.
func (p *parser) enter(l *line, first, last, next part, read func(*line)) {
	if p.part < first || p.part > last {
		l.fail(api.ErrForm)
		return
	}
	p.part = next
	read(l)
}

func (p *parser) depth(l *line) {
	l.must("depth")
	p.m.Depth = l.count()
}

func (p *parser) region(l *line) {
	l.must("region")
	r := api.Region{Base: l.address(), Len: l.address()}
	switch l.take(aName) {
	case "bytes":
		if l.comes(someData) {
			r.Data = l.data()
		}
	case "slots":
		p.part = inSlots
	default:
		l.fail(api.ErrForm)
	}
	p.m.Regions = append(p.m.Regions, r)
}

func (p *parser) slot(l *line) {
	l.must("slot")
	s := api.Slot{Type: l.valueType()}
	l.must("at")
	s.Cursor = l.address()
	r := &p.m.Regions[len(p.m.Regions)-1]
	r.Slots = append(r.Slots, s)
}

func (p *parser) comp(l *line) {
	l.must("comp")
	p.m.Comps = append(p.m.Comps, api.Comp{})
	p.labels = append(p.labels, map[string]int{})
}

func (p *parser) root(l *line) {
	l.must("root")
	r := api.Root{Reg: l.register()}
	r.Cap = api.Cap{Base: l.address(), End: l.address(), Cursor: l.address(), Perms: l.perms(), Seal: l.seal()}
	c := &p.m.Comps[len(p.m.Comps)-1]
	c.Roots = append(c.Roots, r)
}

// code reads labels, and the instruction behind them, if there is one.
func (p *parser) code(l *line) {
	comp := len(p.m.Comps) - 1
	for l.comes(aLabel) {
		declare(l, p.labels[comp], l.take(aLabel), len(p.m.Comps[comp].Code))
	}
	if len(l.tokens) > 0 {
		p.instruction(l, comp)
	}
}

func (p *parser) instruction(l *line, comp int) {
	c := &p.m.Comps[comp]
	at := len(c.Code)
	lay := func(n int) { p.m.Comps[comp].Code[at].Imm = n }
	i := api.Inst{Op: l.operation()}
	for _, o := range operands(&i) {
		switch o.letter {
		case 'r':
			*o.field = l.register()
		case 'p':
			*o.field = int(l.perms())
		case 't':
			*o.field = p.target(l, p.labels[comp], lay)
		case 'g':
			*o.field = p.target(l, p.gates, lay)
		default:
			*o.field = l.operand()
		}
		// The fields that are not read yet are 0, which each may be: so this one alone is asked.
		if instr.Right(i) != api.OK {
			l.fail(api.ErrNumber)
		}
	}
	c.Code = append(c.Code, i)
}

func (p *parser) gate(l *line) {
	l.must("gate")
	at := len(p.m.Gates)
	declare(l, p.gates, l.take(aName), at)
	g := api.Gate{Comp: l.count()}
	g.Entry = p.target(l, p.labelsOf(g.Comp), func(n int) { p.m.Gates[at].Entry = n })
	g.Args = l.valueTypes()
	l.take(anArrow)
	g.Results = l.valueTypes()
	p.m.Gates = append(p.m.Gates, g)
}

// labelsOf are the labels of a compartment; none, if it is not there.
func (p *parser) labelsOf(comp int) map[string]int {
	if comp >= len(p.labels) {
		return nil
	}
	return p.labels[comp]
}

// target takes the number of an instruction, or of a gate; of a name it is 0 as yet.
func (p *parser) target(l *line, names map[string]int, lay func(n int)) int {
	if !l.comes(aName) {
		return l.count()
	}
	p.wanted = append(p.wanted, wanted{l.number, l.take(aName), names, lay})
	return 0
}

// declare keeps the number of a name that must be new.
func declare(l *line, names map[string]int, name string, n int) {
	if _, there := names[name]; there {
		l.fail(api.ErrTwice)
	}
	names[name] = n
}

// settle lays the numbers of all names where they belong; it tells the first line with a name that is none.
func (p *parser) settle() (api.Errno, int) {
	for _, w := range p.wanted {
		n, there := w.names[w.name]
		if !there {
			return api.ErrName, w.line
		}
		w.lay(n)
	}
	return api.OK, 0
}
