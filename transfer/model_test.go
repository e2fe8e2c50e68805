package transfer_test

import (
	"math/big"
	"testing"

	"paddock/api"
	"paddock/image"
	"paddock/instr"
	"paddock/regtype"
	"paddock/span"
	"paddock/transfer"
)

// The model says the chapter's tables once more, operation by operation, with whole numbers of any size.

type model struct {
	m       api.Image
	gate    api.Gate
	code    []api.Inst
	pc      int
	i       api.Inst
	st      api.State
	a, b, c api.RType
}

func modelOf(m api.Image, gate int, pc int, st api.State) model {
	for k := range st.Regs {
		st.Regs[k] = regtype.Join(st.Regs[k], st.Regs[k])
	}
	g := m.Gates[gate]
	code := m.Comps[g.Comp].Code
	x := model{m: m, gate: g, code: code, pc: pc, i: code[pc], st: st}
	x.a, x.b = st.Regs[x.i.A], st.Regs[x.i.B]
	if x.i.C < api.Regs {
		x.c = st.Regs[x.i.C]
	}
	return x
}

func whole(n uint64) *big.Int { return new(big.Int).SetUint64(n) }

func sum(n uint64, more ...int) *big.Int {
	w := whole(n)
	for _, k := range more {
		w.Add(w, big.NewInt(int64(k)))
	}
	return w
}

func (x model) next(pc int, st api.State) api.Step {
	if pc >= len(x.code) {
		return refused(api.RFall)
	}
	return api.Step{Next: []api.Succ{{Pc: pc, State: st}}}
}

func (x model) put(r api.RType) api.Step {
	st := x.st
	st.Regs[x.i.A] = r
	return x.next(x.pc+1, st)
}

func (x model) known(n uint64) api.Step {
	step := x.put(regtype.Int(span.Of(n)))
	if step.Reason == api.Fine {
		step.Verdict, step.Value = api.Known, n
	}
	return step
}

func (x model) verdict(v api.Verdict) api.Step {
	if v == api.Fails {
		return api.Step{Verdict: api.Fails}
	}
	step := x.next(x.pc+1, x.st)
	if step.Reason == api.Fine {
		step.Verdict = v
	}
	return step
}

// look is the first Reason that a row of letters has: i RInt, c RCap, s RSeal, each of the register that stands behind it.
func (x model) look(row string) api.Reason {
	of := map[byte]api.RType{'A': x.a, 'B': x.b, 'C': x.c}
	for k := 0; k < len(row); k += 2 {
		r := of[row[k+1]]
		switch {
		case row[k] == 'i' && r.Kind != api.AnInt:
			return api.RInt
		case row[k] == 'c' && r.Kind != api.ACap:
			return api.RCap
		case row[k] == 's' && r.Seal != 0:
			return api.RSeal
		}
	}
	return api.Fine
}

// rows are what is looked at first. (What CUNSEAL asks stands there in another order.)
func rows() map[api.Op]string {
	l := map[api.Op]string{
		api.ADDI: "iB", api.OUT: "iA", api.HALT: "iA", api.JC: "cAsA",
		api.CINC: "cBiCsB", api.CINCI: "cBsB", api.CSETB: "cBiCsB", api.CSETBI: "cBsB", api.CANDP: "cBsB", api.CSEAL: "cBcCsBsC", api.CUNSEAL: "cBcC",
		api.CADDR: "cB", api.CBASE: "cB", api.CEND: "cB", api.CPERM: "cB", api.CSEALED: "cB",
		api.LB: "cBsB", api.LW: "cBsB", api.LC: "cBsB", api.SC: "cBsB", api.SB: "iAcBsB", api.SW: "iAcBsB",
		api.GLT: "iA", api.GGE: "iA", api.GIN: "cA", api.GPERM: "cA", api.GSEAL: "cA",
	}
	for _, op := range []api.Op{api.ADD, api.SUB, api.MUL, api.AND, api.OR, api.XOR, api.SHL, api.SHR, api.SLT, api.SEQ} {
		l[op] = "iBiC"
	}
	for _, op := range []api.Op{api.BEQ, api.BNE, api.BLT, api.BGE} {
		l[op] = "iAiB"
	}
	return l
}

func (x model) step() api.Step {
	if why := x.look(rows()[x.i.Op]); why != api.Fine {
		return refused(why)
	}
	switch op := x.i.Op; {
	case op <= api.SEQ:
		return x.reckon()
	case op <= api.RET:
		return x.way()
	case op <= api.CUNSEAL:
		return x.derive()
	case op <= api.CSAME:
		return x.question()
	case op <= api.SC:
		return x.memory()
	}
	return x.guard()
}

func (x model) reckon() api.Step {
	imm := span.Of(uint64(x.i.Imm))
	switch x.i.Op {
	case api.LI:
		return x.put(regtype.Int(imm))
	case api.MOV:
		return x.put(x.b)
	case api.ADDI:
		return x.put(regtype.Int(span.Apply(api.ADD, x.b.N, imm)))
	}
	return x.put(regtype.Int(span.Apply(x.i.Op, x.b.N, x.c.N)))
}

func (x model) way() api.Step {
	switch x.i.Op {
	case api.JMP:
		return x.next(x.i.Imm, x.st)
	case api.BEQ, api.BNE, api.BLT, api.BGE:
		return x.branch()
	case api.CPC:
		c, _ := image.CodeCap(x.m, x.gate.Comp, x.i.Imm)
		return x.put(regtype.Exact(c))
	case api.JC:
		return x.jump()
	case api.IN:
		return x.put(regtype.Int(span.Full()))
	case api.OUT:
		return x.next(x.pc+1, x.st)
	case api.CALL:
		g := x.m.Gates[x.i.Imm]
		if !x.sure(g.Args) {
			return refused(api.RArgs)
		}
		st := x.st
		for k, t := range g.Results {
			st.Regs[1+k] = regtype.Of(t)
		}
		return x.next(x.pc+1, st)
	case api.RET:
		if !x.sure(x.gate.Results) {
			return refused(api.RResult)
		}
	}
	return api.Step{}
}

func (x model) sure(types []api.Type) bool {
	for k, t := range types {
		if !regtype.Sure(x.st.Regs[1+k], t) {
			return false
		}
	}
	return true
}

func (x model) branch() api.Step {
	opposite := map[api.Op]api.Op{api.BEQ: api.BNE, api.BNE: api.BEQ, api.BLT: api.BGE, api.BGE: api.BLT}[x.i.Op]
	var step api.Step
	for _, w := range []struct {
		op api.Op
		pc int
	}{{opposite, x.pc + 1}, {x.i.Op, x.i.Imm}} {
		a, b, can := span.Refine(w.op, x.a.N, x.b.N)
		if !can {
			continue
		}
		if w.pc == len(x.code) {
			return refused(api.RFall)
		}
		st := x.st
		st.Regs[x.i.A] = regtype.Int(a)
		st.Regs[x.i.B] = regtype.Int(b)
		if len(step.Next) == 1 && step.Next[0].Pc == w.pc {
			step.Next[0].State = regtype.JoinState(step.Next[0].State, st)
		} else {
			step.Next = append(step.Next, api.Succ{Pc: w.pc, State: st})
		}
	}
	return step
}

// jump seeks the instruction among all.
func (x model) jump() api.Step {
	if x.a.Must&api.Exec == 0 {
		return refused(api.RPerm)
	}
	for pc := range x.code {
		c, _ := image.CodeCap(x.m, x.gate.Comp, pc)
		if x.a.Base == one(c.Base) && x.a.End == one(c.End) && x.a.Point == one(c.Cursor) {
			step := x.next(pc, x.st)
			step.Verdict, step.Value = api.Goes, uint64(pc)
			return step
		}
	}
	return refused(api.RTarget)
}

func (x model) derive() api.Step {
	b, c, n := x.b, x.c, span.Of(uint64(x.i.Imm))
	if x.i.Op == api.CINC || x.i.Op == api.CSETB {
		n = x.c.N
	}
	switch x.i.Op {
	case api.CINC, api.CINCI:
		b.Point = span.Apply(api.ADD, b.Point, n)
	case api.CSETB, api.CSETBI:
		lo, hi := whole(b.Point.Lo), whole(b.Point.Hi)
		lo, hi = lo.Add(lo, whole(n.Lo)), hi.Add(hi, whole(n.Hi))
		if b.Point.Lo < b.Base.Hi || hi.Cmp(whole(b.End.Lo)) > 0 {
			return refused(api.RBounds)
		}
		b.Base, b.End = b.Point, s(lo.Uint64(), hi.Uint64())
	case api.CANDP:
		b.Must, b.May = b.Must&api.Perms(x.i.Imm), b.May&api.Perms(x.i.Imm)
	default:
		return x.seals(b, c)
	}
	return x.put(b)
}

func (x model) seals(b, c api.RType) api.Step {
	p, right := api.Seal, c.Point.Lo >= 1 && c.Point.Lo <= 15
	seal := int(c.Point.Lo)
	if x.i.Op == api.CUNSEAL {
		if b.Seal <= 0 || c.Seal != 0 {
			return refused(api.RSeal)
		}
		p, right, seal = api.Unseal, c.Point.Lo == uint64(b.Seal), 0
	}
	switch {
	case c.Must&p == 0:
		return refused(api.RPerm)
	case c.Point.Lo < c.Base.Hi || c.Point.Hi >= c.End.Lo:
		return refused(api.RBounds)
	case c.Point.Lo != c.Point.Hi || !right:
		return refused(api.ROtype)
	}
	b.Seal = seal
	return x.put(b)
}

func (x model) question() api.Step {
	b, c := x.b, x.c
	var n uint64
	var known bool
	switch x.i.Op {
	case api.CADDR:
		return x.put(regtype.Int(b.Point))
	case api.CBASE:
		n, known = b.Base.Lo, b.Base.Lo == b.Base.Hi
	case api.CEND:
		n, known = b.End.Lo, b.End.Lo == b.End.Hi
	case api.CPERM:
		n, known = uint64(b.Must), b.Must == b.May
	case api.CSEALED:
		n, known = uint64(b.Seal), b.Seal != -1
	case api.CTAG:
		known = b.Kind != api.Any
		if b.Kind == api.ACap {
			n = 1
		}
	case api.CSAME:
		return x.same(b, c)
	}
	if !known {
		return refused(api.RMeta)
	}
	return x.known(n)
}

func (x model) same(b, c api.RType) api.Step {
	if b.Kind == api.Any || c.Kind == api.Any {
		return refused(api.RMeta)
	}
	if b.Kind == api.AnInt || c.Kind == api.AnInt {
		return x.known(0)
	}
	for _, p := range [][2]api.Span{{b.Base, c.Base}, {b.End, c.End}, {b.Point, c.Point}} {
		if max(p[0].Lo, p[1].Lo) > min(p[0].Hi, p[1].Hi) {
			return x.known(0)
		}
	}
	if b.Must|c.May != c.May || c.Must|b.May != b.May || b.Seal >= 0 && c.Seal >= 0 && b.Seal != c.Seal {
		return x.known(0)
	}
	for _, r := range []api.RType{b, c} {
		if r.Base.Lo != r.Base.Hi || r.End.Lo != r.End.Hi || r.Must != r.May || r.Seal == -1 {
			return refused(api.RMeta)
		}
	}
	if b.Point.Lo == b.Point.Hi && c.Point.Lo == c.Point.Hi {
		return x.known(1)
	}
	return x.put(integer(0, 1))
}

func (x model) memory() api.Step {
	bytes := map[api.Op]int{api.LB: 1, api.LW: 8, api.SB: 1, api.SW: 8, api.LC: 16, api.SC: 16}[x.i.Op]
	p := map[api.Op]api.Perms{api.LB: api.Load, api.LW: api.Load, api.SB: api.Store, api.SW: api.Store, api.LC: api.LoadCap, api.SC: api.StoreCap}[x.i.Op]
	from, to := sum(x.b.Point.Lo, x.i.Imm), sum(x.b.Point.Hi, x.i.Imm, bytes)
	switch {
	case x.b.Must&p == 0:
		return refused(api.RPerm)
	case from.Cmp(whole(x.b.Base.Hi)) < 0 || to.Cmp(whole(x.b.End.Lo)) > 0:
		return refused(api.RBounds)
	case bytes == 16:
		return x.slot(from.Uint64())
	}
	for _, r := range x.m.Regions {
		end := new(big.Int).Add(whole(r.Base), whole(r.Len))
		if len(r.Slots) > 0 || whole(r.Base).Cmp(from) > 0 || end.Cmp(to) < 0 {
			continue
		}
		switch x.i.Op {
		case api.LB:
			return x.put(integer(0, 255))
		case api.LW:
			return x.put(integer(0, top))
		}
		return x.next(x.pc+1, x.st)
	}
	return refused(api.RBytes)
}

func (x model) slot(from uint64) api.Step {
	if x.b.Point.Lo != x.b.Point.Hi {
		return refused(api.RSlot)
	}
	if from%16 != 0 {
		return refused(api.RAlign)
	}
	for _, r := range x.m.Regions {
		for k, l := range r.Slots {
			if r.Base+uint64(16*k) != from {
				continue
			}
			if x.i.Op == api.LC {
				return x.put(regtype.Of(l.Type))
			}
			if !regtype.Sure(x.a, l.Type) {
				return refused(api.RSlot)
			}
			return x.next(x.pc+1, x.st)
		}
	}
	return refused(api.RSlot)
}

func (x model) guard() api.Step {
	a, n := x.a, uint64(x.i.Imm)
	v := api.Plain
	switch p := api.Perms(n); x.i.Op {
	case api.GLT:
		switch {
		case a.N.Hi < n:
			return x.verdict(api.Holds)
		case a.N.Lo >= n:
			return x.verdict(api.Fails)
		}
		return x.put(integer(a.N.Lo, n-1))
	case api.GGE:
		switch {
		case a.N.Lo >= n:
			return x.verdict(api.Holds)
		case a.N.Hi < n:
			return x.verdict(api.Fails)
		}
		return x.put(integer(n, a.N.Hi))
	case api.GTAG:
		v = map[api.RKind]api.Verdict{api.ACap: api.Holds, api.AnInt: api.Fails}[a.Kind]
	case api.GIN:
		v = inside(a, x.i.Imm)
	case api.GPERM:
		switch {
		case a.Must&p == p:
			v = api.Holds
		case a.May&p != p:
			v = api.Fails
		}
	case api.GSEAL:
		switch a.Seal {
		case -1:
		case x.i.Imm:
			v = api.Holds
		default:
			v = api.Fails
		}
	}
	if v == api.Plain {
		return refused(api.RGuard)
	}
	return x.verdict(v)
}

func inside(a api.RType, n int) api.Verdict {
	switch {
	case a.Seal > 0:
		return api.Fails
	case a.Seal == 0 && a.Point.Lo >= a.Base.Hi && sum(a.Point.Hi, n).Cmp(whole(a.End.Lo)) <= 0:
		return api.Holds
	case a.Point.Hi < a.Base.Lo || sum(a.Point.Lo, n).Cmp(whole(a.End.Hi)) > 0:
		return api.Fails
	}
	return api.Plain
}

// answer is of which sort a step is.
type answer struct {
	op      api.Op
	why     api.Reason
	verdict api.Verdict
}

// answers are all sorts that there are.
func answers() map[answer]bool {
	l := map[answer]bool{}
	reasons := map[byte]api.Reason{'i': api.RInt, 'c': api.RCap, 's': api.RSeal}
	for _, op := range ops() {
		row := rows()[op]
		for k := 0; k < len(row); k += 2 {
			l[answer{op: op, why: reasons[row[k]]}] = true
		}
		for _, why := range moreReasons(op) {
			l[answer{op: op, why: why}] = true
		}
		for _, v := range verdicts(op) {
			l[answer{op: op, verdict: v}] = true
		}
	}
	return l
}

// moreReasons are those beside what is looked at first.
func moreReasons(op api.Op) []api.Reason {
	switch op {
	case api.JMP, api.HALT, api.TRAP:
		return nil
	case api.JC:
		return []api.Reason{api.RPerm, api.RTarget}
	case api.CALL:
		return []api.Reason{api.RArgs, api.RFall}
	case api.RET:
		return []api.Reason{api.RResult}
	case api.CSETB, api.CSETBI:
		return []api.Reason{api.RBounds, api.RFall}
	case api.CSEAL:
		return []api.Reason{api.RPerm, api.RBounds, api.ROtype, api.RFall}
	case api.CUNSEAL:
		return []api.Reason{api.RSeal, api.RPerm, api.RBounds, api.ROtype, api.RFall}
	case api.CBASE, api.CEND, api.CPERM, api.CSEALED, api.CTAG, api.CSAME:
		return []api.Reason{api.RMeta, api.RFall}
	case api.LB, api.LW, api.SB, api.SW:
		return []api.Reason{api.RPerm, api.RBounds, api.RBytes, api.RFall}
	case api.LC, api.SC:
		return []api.Reason{api.RPerm, api.RBounds, api.RSlot, api.RAlign, api.RFall}
	case api.GTAG, api.GIN, api.GPERM, api.GSEAL:
		return []api.Reason{api.RGuard, api.RFall}
	}
	return []api.Reason{api.RFall}
}

func verdicts(op api.Op) []api.Verdict {
	switch op {
	case api.JC:
		return []api.Verdict{api.Goes}
	case api.CBASE, api.CEND, api.CPERM, api.CSEALED, api.CTAG:
		return []api.Verdict{api.Known}
	case api.CSAME:
		return []api.Verdict{api.Known, api.Plain}
	case api.GLT, api.GGE:
		return []api.Verdict{api.Holds, api.Fails, api.Plain}
	case api.GTAG, api.GIN, api.GPERM, api.GSEAL:
		return []api.Verdict{api.Holds, api.Fails}
	}
	return []api.Verdict{api.Plain}
}

// TestAsModelled holds each operation against the model; how often each sort of answer came is counted, so that none is missed, and there are no others.
func TestAsModelled(t *testing.T) {
	d := rolled(1)
	came := map[answer]int{}
	for range 4000 {
		for _, op := range ops() {
			m, st := d.asked(op)
			got, want := transfer.Do(m, inner, at, st), modelOf(m, inner, at, st).step()
			came[answer{op, want.Reason, want.Verdict}]++
			if !sameStep(got, want) {
				t.Fatalf("10.3 to 10.8: %+v of %d, with %+v: %+v, want %+v", m.Comps[1].Code[at], len(m.Comps[1].Code), st, got, want)
			}
		}
	}
	for a := range answers() {
		if came[a] < 10 {
			t.Errorf("%s with the Reason %d, the Verdict %d came %d times: the dice are too narrow", instr.Name(a.op), a.why, a.verdict, came[a])
		}
		delete(came, a)
	}
	for a, n := range came {
		t.Errorf("%s with the Reason %d, the Verdict %d came %d times, and should not", instr.Name(a.op), a.why, a.verdict, n)
	}
}
