package lang_test

import (
	"math/rand/v2"
	"slices"
	"strconv"
	"strings"
)

// dice make sources. A careless one makes, now and then, what may not be.
type dice struct {
	*rand.Rand
	careless bool
	row      []string // the tokens so far
	regions  []madeRegion
	fns      []madeFn
	comp     *madeComp
	visible  []local
	deep     int
	last     int // the number of tokens at which the compartment should be over
	fresh    int
}

type madeRegion struct {
	name  string
	count int
}

type madeComp struct {
	head []local
	fns  []int
}

type madeFn struct {
	name   string
	params []local
}

func rolled(seed uint64) *dice {
	return &dice{Rand: rand.New(rand.NewPCG(seed, 15))}
}

func pick[T any](d *dice, l ...T) T { return l[d.IntN(len(l))] }

func (d *dice) one(in int) bool { return d.IntN(in) == 0 }

// slip is so only for a careless one, and seldom.
func (d *dice) slip() bool { return d.careless && d.one(60) }

func (d *dice) say(words ...string) { d.row = append(d.row, words...) }

// word is a new name, or, by a slip, one that is there.
func (d *dice) word() string {
	if d.slip() && len(d.row) > 0 {
		for range 5 {
			if w := pick(d, d.row...); (piece{text: w}).isName() {
				return w
			}
		}
	}
	d.fresh++
	return pick(d, "a", "x_", "n0", "zz", "long_name_") + strconv.Itoa(d.fresh)
}

// any is a name that stands somewhere.
func (d *dice) any() string {
	for range 20 {
		if w := pick(d, d.row...); (piece{text: w}).isName() {
			return w
		}
	}
	return "nobody"
}

func (d *dice) number() int {
	return pick(d, 0, 1, 2, 3, 7, 8, 63, 64, 65, 255, 256, 2147483647, d.IntN(20), d.IntN(20), d.IntN(1<<31))
}

// arg is a number of 64 bits.
func (d *dice) arg() uint64 {
	return pick(d, 0, 1, 2, 3, 4, 7, 8, 15, 16, 255, 256, 1<<63, ^uint64(0), uint64(d.IntN(20)), uint64(d.IntN(20)), d.Uint64())
}

func (d *dice) numbers(count int) []uint64 {
	var l []uint64
	for range count {
		l = append(l, d.arg())
	}
	return l
}

// source makes the tokens of a program.
func (d *dice) source() []string {
	for range pick(d, 0, 1, 1, 2, 3, 3, 4, 8) + d.extra() {
		r := madeRegion{d.word(), pick(d, 1, 2, 3, 8, 15, 16, 17, 512, 1+d.IntN(40))}
		size := r.count
		if d.slip() {
			size = pick(d, 0, 513, 100000)
		}
		d.say(pick(d, "bytes", "words"), r.name, strconv.Itoa(size))
		d.regions = append(d.regions, r)
	}
	comps := d.plan(1 + d.IntN(4) + d.extra())
	for k := range comps {
		d.compartment(&comps[k])
	}
	return d.row
}

// extra is what is one too many, seldom.
func (d *dice) extra() int {
	if d.slip() {
		return 1 + d.IntN(6)
	}
	return 0
}

// plan makes heads and functions ahead of their code, as each may be called anywhere.
func (d *dice) plan(count int) []madeComp {
	comps := make([]madeComp, count)
	for k := range comps {
		c := &comps[k]
		for range d.IntN(4) + d.extra() {
			c.head = append(c.head, d.lend(c.head))
		}
		c.head = slices.DeleteFunc(c.head, func(v local) bool { return v.region == "" })
		for range 1 + d.IntN(4) + d.extra() {
			c.fns = append(c.fns, len(d.fns))
			d.fns = append(d.fns, madeFn{d.word(), d.params()})
		}
	}
	return comps
}

// lend is a region that is not among some; an empty local, if there is none.
func (d *dice) lend(but []local) local {
	for range 6 {
		if len(d.regions) == 0 {
			break
		}
		r := pick(d, d.regions...).name
		if d.slip() {
			r = d.any()
		}
		if d.slip() || !slices.ContainsFunc(but, func(v local) bool { return v.region == r }) {
			return local{r, pick(d, "uses", "uses", "reads"), r}
		}
	}
	return local{}
}

func (d *dice) params() []local {
	var l []local
	for range pick(d, 0, 1, 1, 2, 2, 3, 4, 5) + d.extra() {
		p := local{}
		if d.one(3) {
			p = d.lend(nil)
		}
		p.name = d.word()
		l = append(l, p)
	}
	return l
}

func (d *dice) compartment(c *madeComp) {
	d.comp = c
	d.say("comp", d.word())
	for _, v := range c.head {
		d.say(v.use, v.region)
	}
	d.say("{")
	begin := len(d.row)
	for k, f := range c.fns {
		share := 148 - (len(d.row) - begin)
		if left := len(c.fns) - k; left > 1 {
			share = share / left
		}
		d.last = len(d.row) + share + 10*d.extra()
		d.function(d.fns[f])
	}
	d.say("}")
}

func (d *dice) function(f madeFn) {
	d.say("fn", f.name, "(")
	d.visible = nil
	for k, p := range f.params {
		if k > 0 {
			d.say(",")
		}
		d.say(p.name)
		if p.use != "" {
			d.say(":", p.use, p.region)
		}
	}
	d.visible = slices.Clone(f.params)
	d.deep = 0
	d.say(")")
	d.block(1 + d.IntN(12))
	d.visible = nil
}

// left is how many tokens there may still be.
func (d *dice) left() int { return d.last - len(d.row) - 1 }

func (d *dice) block(count int) {
	d.say("{")
	d.deep++
	visible := len(d.visible)
	for range count {
		if d.left() > 12 {
			d.stmt()
		}
	}
	if !d.slip() {
		d.visible = d.visible[:visible]
	}
	d.deep--
	d.say("}")
}

// those are the visible names, and the regions of the head, that are so.
func (d *dice) those(so func(v local) bool) []local {
	l := slices.Clone(d.visible)
	if d.comp != nil {
		l = append(l, d.comp.head...)
	}
	return slices.DeleteFunc(l, func(v local) bool { return !so(v) })
}

func isInteger(v local) bool { return v.use == "" }

// name is one that is so, or, by a slip, any.
func (d *dice) name(so func(v local) bool) string {
	l := d.those(so)
	if len(l) == 0 || d.slip() {
		return d.any()
	}
	return pick(d, l...).name
}

func (d *dice) stmt() {
	integers := len(d.those(isInteger)) > 0
	stores := len(d.those(func(v local) bool { return v.use == "uses" })) > 0
	switch k := d.IntN(22); {
	case k < 4 && (len(d.visible) < 5 || d.slip()):
		name := d.word()
		d.say("let", name, "=")
		d.value()
		d.visible = append(d.visible, local{name: name})
	case k < 7 && integers:
		d.say(d.name(isInteger), "=")
		d.value()
	case k < 11 && stores:
		d.say(d.name(func(v local) bool { return v.use == "uses" }))
		d.index(6)
		d.say("=")
		d.expr(5)
	case k < 12:
		d.call()
	case k < 14 && d.deep < 12:
		d.say("if")
		d.expr(6)
		d.block(d.IntN(4))
		if d.one(2) {
			d.say("else")
			d.block(d.IntN(4))
		}
	case k < 16 && d.deep < 12:
		d.loop()
	default:
		d.simple()
	}
}

// loop is, for the most part, one that ends.
func (d *dice) loop() {
	integers := d.those(isInteger)
	if d.one(3) || len(integers) == 0 {
		d.say("while")
		d.expr(6)
		d.block(d.IntN(3))
		return
	}
	i := pick(d, integers...).name
	d.say("while", i, pick(d, "<", "!=", "<="), strconv.Itoa(d.IntN(12)), "{")
	visible := len(d.visible)
	for range d.IntN(3) {
		if d.left() > 20 {
			d.stmt()
		}
	}
	d.visible = d.visible[:visible]
	d.say(i, "=", i, "+", "1", "}")
}

func (d *dice) simple() {
	switch d.IntN(10) {
	case 0:
		d.say("trap", d.code())
	case 1:
		d.say("return")
		d.expr(6)
	case 2, 3:
		d.say("need")
		d.expr(6)
		d.say(d.code())
	default:
		d.say("out")
		d.expr(6)
	}
}

func (d *dice) code() string {
	if d.slip() {
		return pick(d, "256", "2147483647")
	}
	return strconv.Itoa(pick(d, 0, 1, 254, 255, d.IntN(256)))
}

func (d *dice) value() {
	if d.one(3) {
		d.call()
		return
	}
	d.expr(6)
}

// call calls a function for whose params there is something; if none is found, it puts something out instead, which stands for a value, too.
func (d *dice) call() {
	for range 6 {
		f := pick(d, d.fns...)
		if d.slip() {
			f.name = d.any()
		}
		args, there := d.lendable(f.params)
		if !there || 2*len(args) > d.left()-6 {
			continue
		}
		d.say(f.name, "(")
		for k, a := range args {
			if k > 0 {
				d.say(",")
			}
			if a != "" && !d.slip() {
				d.say(a)
			} else {
				d.expr(7 - k)
			}
		}
		d.say(")")
		return
	}
	f := pick(d, d.fns...)
	if len(f.params) == 0 {
		d.say(f.name, "(", ")")
		return
	}
	d.say("in")
	if d.row[len(d.row)-2] != "=" {
		d.row[len(d.row)-1] = "out"
		d.say("in")
	}
}

// lendable are names for the params for regions, and empty texts for the others.
func (d *dice) lendable(params []local) ([]string, bool) {
	if d.slip() {
		params = params[:d.IntN(len(params)+1)]
	}
	var l []string
	for _, p := range params {
		if p.use == "" {
			l = append(l, "")
			continue
		}
		fit := d.those(func(v local) bool { return v.region == p.region && (p.use == "reads" || v.use == "uses") })
		if len(fit) == 0 {
			return nil, false
		}
		l = append(l, pick(d, fit...).name)
	}
	return l, true
}

// expr makes one that is so high at most.
func (d *dice) expr(high int) {
	high += d.extra()
	d.sum(high)
	if d.one(4) && high > 1 && d.left() > 8 {
		d.say(pick(d, "==", "!=", "<", "<=", ">", ">="))
		d.sum(high - 1)
	}
}

func (d *dice) sum(high int) {
	d.term(high)
	for d.one(4) && high > 1 && d.left() > 8 {
		d.say(pick(d, "+", "-", "|", "^"))
		d.term(high - 1)
	}
}

func (d *dice) term(high int) {
	d.factor(high)
	for d.one(5) && high > 1 && d.left() > 8 {
		d.say(pick(d, "*", "&", "<<", ">>"))
		d.factor(high - 1)
	}
}

func (d *dice) factor(high int) {
	if d.deep >= 20 {
		d.say("7")
		return
	}
	short := d.left() < 10
	lent := func(v local) bool { return v.use != "" }
	switch k := d.IntN(20); {
	case k < 2:
		d.say("in")
	case k < 6 && !short && len(d.those(lent)) > 0:
		d.say(d.name(lent))
		d.index(high)
	case k < 8 && !short:
		d.within("(", ")", func() { d.expr(high) })
	case k < 10 && !short:
		d.within(pick(d, "-", "!"), "", func() { d.factor(high) })
	case k < 16 && len(d.those(isInteger)) > 0:
		d.say(d.name(isInteger))
	default:
		d.say(strconv.Itoa(d.number()))
	}
}

func (d *dice) within(open string, shut string, inner func()) {
	d.say(open)
	d.deep++
	inner()
	d.deep--
	if shut != "" {
		d.say(shut)
	}
}

// index is often one that is within the region; which one that is stands ahead.
func (d *dice) index(high int) {
	name := d.row[len(d.row)-1]
	count := 1
	for _, v := range d.those(func(v local) bool { return v.name == name }) {
		for _, r := range d.regions {
			if r.name == v.region {
				count = r.count
			}
		}
	}
	d.within("[", "]", func() {
		switch {
		case d.one(3):
			d.say(strconv.Itoa(min(d.IntN(count), count-1) + d.extra()*d.IntN(600)))
		case d.one(3) && high > 1:
			d.say(strconv.Itoa(d.IntN(count+1)), "&")
			d.factor(min(high-1, 2))
		default:
			d.notJustNumber(func() { d.expr(high) })
		}
	})
}

// notJustNumber puts a number that stands alone in brackets: how great it is does not matter then.
func (d *dice) notJustNumber(inner func()) {
	at := len(d.row)
	inner()
	if len(d.row) > at+1 || !(piece{text: d.row[at]}).isNumber() || d.slip() {
		return
	}
	if d.deep >= 20 {
		d.row[at] = "0"
		return
	}
	d.row = append(d.row[:at], "(", d.row[at], ")")
}

// laid is a text of these tokens, each with something ahead of it; often they stand in lines of their own.
func (d *dice) laid(row []string) string {
	var b strings.Builder
	for _, w := range row {
		b.WriteString(pick(d, " ", " ", "  ", "\t", "\n", "\n", "\n\n", " # out ) $ é\n", "#\n \t"))
		b.WriteString(w)
	}
	b.WriteString(pick(d, "", "\n", " ", "\n\n\n", "# the end", "#\n"))
	return b.String()
}

// spoiled is a row in which something small is another.
func (d *dice) spoiled(row []string) []string {
	l := slices.Clone(row)
	for range 1 + d.IntN(2) {
		if len(l) < 2 {
			break
		}
		at := d.IntN(len(l))
		switch d.IntN(6) {
		case 0:
			l = slices.Delete(l, at, at+1)
		case 1:
			l = slices.Insert(l, at, pick(d, l...))
		case 2:
			l[at] = pick(d, l...)
		case 3:
			to := d.IntN(len(l))
			l[at], l[to] = l[to], l[at]
		case 4:
			l[at] = pick(d, strings.Fields("{ } ( ) [ ] , : = + - * & | ^ ! < > == != <= >= << >>"+keywords+" x 5 2147483648 $ _a aA abcdefghijklm")...)
		default:
			l = l[:at+1]
		}
	}
	return l
}
