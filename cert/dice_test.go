package cert_test

import (
	"math/rand/v2"
	"slices"
	"sync"

	"paddock/api"
	"paddock/checker"
	"paddock/instr"
	"paddock/regtype"
	"paddock/transfer"
)

// dice makes programs and certificates, the same in each run of the tests.
type dice struct{ *rand.Rand }

func rolled(seed uint64) dice { return dice{rand.New(rand.NewPCG(seed, 22))} }

// of is one of a list.
func of[T any](d dice, l ...T) T { return l[d.IntN(len(l))] }

func (d dice) oneIn(n int) bool { return d.IntN(n) == 0 }

// number is one at the edge of something, or any.
func (d dice) number() uint64 {
	return of(d, 0, 1, 2, 5, 16, 31, 32, top, d.Uint64N(40), d.Uint64())
}

func (d dice) numbers(n int) []uint64 {
	var l []uint64
	for range n {
		l = append(l, d.number())
	}
	return l
}

// ops are the operations that have names.
func ops() []api.Op {
	var l []api.Op
	for n := range 256 {
		if instr.Name(api.Op(n)) != "" {
			l = append(l, api.Op(n))
		}
	}
	return l
}

// needsCap tells whether an operation has a capability in a field (from 0 on: A, B, C).
func needsCap(op api.Op, field int) bool {
	switch field {
	case 0:
		return op >= api.CINC && op <= api.CUNSEAL || op >= api.LC && op <= api.SC || op >= api.GTAG || op == api.CPC || op == api.JC
	case 1:
		return op >= api.CINC && op <= api.SC
	}
	return op == api.CSEAL || op == api.CUNSEAL || op == api.CSAME
}

// register is mostly one of r6 to r15, if a capability is meant, and one of r0 to r5 else. What is laid somewhere is mostly laid in r6 or r7, then.
func (d dice) register(capability bool, isLaid bool) int {
	switch {
	case d.oneIn(12):
		return d.IntN(api.Regs)
	case !capability:
		return d.IntN(6)
	case isLaid && !d.oneIn(5):
		return 6 + d.IntN(2)
	}
	return 6 + d.IntN(10)
}

// inst is a right instruction of a code of so many, where there are so many gates.
func (d dice) inst(op api.Op, size int, gates int) api.Inst {
	i := api.Inst{Op: op}
	registers := []*int{&i.A, &i.B, &i.C}
	for k, letter := range instr.Shape(op) {
		switch letter {
		case 'r':
			isLaid := k == 0 && op < api.GLT && op != api.SC && op != api.JC
			*registers[k] = d.register(needsCap(op, k), isLaid)
		case 'i':
			i.Imm = d.offset(op)
		case 'n':
			i.Imm = of(d, 0, 1, 4, 8, 16, 17, 32, api.MaxMem)
		case 'p':
			i.Imm = of(d, 1, 2, 3, 12, 15, 96, 127, d.IntN(128))
		case 's':
			i.Imm = of(d, 0, 0, 2, 5, 15)
		case 't':
			i.Imm = d.IntN(size)
		case 'g':
			i.Imm = d.IntN(gates)
		case 'c':
			i.C = d.IntN(256)
		}
	}
	if op == api.TRAP {
		i.C, i.Imm = 0, i.C
	}
	return i
}

// offset is a number that an instruction has, which is not below 0 for GLT and GGE.
func (d dice) offset(op api.Op) int {
	n := of(d, 0, 0, 1, 1, 2, 3, 7, 8, 16, 16, 24, 31, 32, 1<<31-1)
	if op != api.GLT && op != api.GGE && d.oneIn(3) {
		n = -n
	}
	return n
}

// What lies in the slots of the dice's programs.
func firstSlot() api.Type { return api.Type{Cap: true, End: 32, Hi: 16, Perms: rw} }

func secondSlot() api.Type {
	return api.Type{Cap: true, Base: 8, End: 16, Lo: 4, Hi: 4, Perms: api.Load, Seal: 2}
}

// pool are the capabilities of which roots are made: the one with the number k lies in the register 8 + k.
func pool() []api.Cap {
	return []api.Cap{
		{End: 32, Cursor: 8, Perms: rw},
		{Base: 48, End: 80, Cursor: 48, Perms: api.LoadCap | api.StoreCap},
		{Base: 1, End: 16, Cursor: 5, Perms: api.Seal | api.Unseal},
		{End: 32, Cursor: 4, Perms: rw, Seal: 5},
		{End: 1 << 32, Cursor: 80, Perms: api.AllPerms &^ api.Exec},
		{Base: 8, End: 16, Cursor: 4, Perms: api.Load, Seal: 2},
		{Base: 48, End: 80, Cursor: 64, Perms: api.LoadCap | api.StoreCap},
		{End: 32, Cursor: top - 7, Perms: rw},
	}
}

// yard is a right program of three compartments whose code does little, and of gates of all sorts.
func (d dice) yard() api.Image {
	m := api.Image{
		Depth: 1 + d.IntN(4),
		Regions: []api.Region{
			{Base: 0, Len: 16, Data: "some bytes"},
			{Base: 16, Len: 16},
			{Base: 48, Len: 32, Slots: []api.Slot{{Type: firstSlot(), Cursor: 2}, {Type: secondSlot(), Cursor: 4}}},
			{Base: 80, Len: 32, Data: "bytes"},
		},
	}
	for range 3 {
		m.Comps = append(m.Comps, d.comp())
	}
	entry := func(comp int) int { return d.IntN(len(m.Comps[comp].Code)) }
	m.Gates = []api.Gate{
		{Comp: 0, Args: []api.Type{{}, {}, {}}},
		{Comp: 1, Args: []api.Type{{}}, Results: []api.Type{{}, firstSlot()}},
		{Comp: 2, Args: []api.Type{firstSlot(), {}}, Results: []api.Type{{}}},
		{Comp: 1, Entry: entry(1), Results: []api.Type{secondSlot()}},
		{Comp: 0, Entry: entry(0), Args: []api.Type{{}, {}}, Results: []api.Type{{}}},
		{Comp: 2, Entry: entry(2)},
	}
	return m
}

func (d dice) comp() api.Comp {
	var c api.Comp
	for k, x := range pool() {
		if !d.oneIn(12) {
			c.Roots = append(c.Roots, api.Root{Reg: 8 + k, Cap: x})
		}
	}
	size := 8 + d.IntN(10)
	for pc := range size - 1 {
		c.Code = append(c.Code, of(d, api.Inst{Op: api.MOV}, api.Inst{Op: api.IN, A: 5}, api.Inst{Op: api.JMP, Imm: pc + 1}, api.Inst{Op: api.LI, A: 4, Imm: d.IntN(9)}))
	}
	c.Code = append(c.Code, of(d, api.Inst{Op: api.TRAP, Imm: 1}, api.Inst{Op: api.JMP}, api.Inst{Op: api.JMP, Imm: d.IntN(size)}, api.Inst{Op: api.HALT}))
	return c
}

// op is any operation, but seldom one behind which nothing comes, as that leaves much undone.
func (d dice) op() api.Op {
	op := of(d, ops()...)
	isEnd := op == api.HALT || op == api.TRAP || op == api.RET
	if isEnd && !d.oneIn(4) {
		return d.op()
	}
	return op
}

// chunk is some instructions that may go together, for a place of a compartment.
func (d dice) chunk(m api.Image, comp int, at int) []api.Inst {
	size := len(m.Comps[comp].Code)
	if d.oneIn(4) {
		return d.back(size, at)
	}
	i := d.inst(d.op(), size, len(m.Gates))
	var l []api.Inst
	switch {
	case (i.Op == api.GLT || i.Op == api.GGE) && d.oneIn(2):
		l = append(l, api.Inst{Op: api.LI, A: i.A, Imm: of(d, i.Imm, i.Imm+1, i.Imm-1) % (1 << 30)})
	case i.Op == api.CALL:
		l = d.handed(m.Gates[i.Imm].Args)
	case i.Op == api.RET:
		l = d.handed(of(d, m.Gates...).Results)
	case i.Op == api.JC:
		l = append(l, api.Inst{Op: api.CPC, A: i.A, Imm: d.target(size, at)})
	default:
		l, i = d.withCaps(i)
	}
	return append(l, i)
}

// target is an instruction, which mostly lies ahead of a place.
func (d dice) target(size int, at int) int {
	if d.oneIn(3) {
		return d.IntN(size)
	}
	return d.IntN(at + 1)
}

// back is a way back: a round that counts, or one that does not, or one that points.
func (d dice) back(size int, at int) []api.Inst {
	to := d.target(size, at)
	r := d.IntN(6)
	switch d.IntN(5) {
	case 0:
		return []api.Inst{{Op: api.JMP, Imm: to}}
	case 1:
		return []api.Inst{{Op: api.CINCI, A: 6, B: of(d, 6, 8), Imm: of(d, 1, 8, -1)}, {Op: api.BNE, A: r, B: d.IntN(6), Imm: to}}
	case 2:
		return []api.Inst{{Op: api.IN, A: r}, {Op: of(d, api.BEQ, api.BNE, api.BLT, api.BGE), A: r, B: d.IntN(6), Imm: to}}
	}
	return []api.Inst{{Op: api.ADDI, A: r, B: r, Imm: of(d, 1, 1, -1, 3)}, {Op: of(d, api.BEQ, api.BNE, api.BLT, api.BGE), A: r, B: d.IntN(6), Imm: to}}
}

// withCaps is an instruction that often has capabilities with which it can be done.
func (d dice) withCaps(i api.Inst) ([]api.Inst, api.Inst) {
	if d.oneIn(2) {
		return nil, i
	}
	var l []api.Inst
	switch i.Op {
	case api.CBASE, api.CEND, api.CPERM, api.CSEALED, api.CTAG:
		i.B = 6
	case api.CSAME:
		// Two that are alike but for where they point.
		l = append(l, api.Inst{Op: api.CINC, A: 6, B: 8, C: d.IntN(6)})
		i.B, i.C = of(d, 6, 8), of(d, 6, 8, 15)
	case api.CINC:
		l = append(l, api.Inst{Op: api.GLT, A: i.C, Imm: of(d, 8, 16, 24)})
	case api.CSETB:
		l = append(l, api.Inst{Op: api.GLT, A: i.C, Imm: of(d, 1, 8, 16)})
		i.B = 8
	case api.CUNSEAL:
		i.B, i.C = 11, 10
	case api.CSEAL:
		i.C = 10
	case api.LB, api.LW, api.SB, api.SW:
		i.B, i.Imm = of(d, 8, 12), of(d, 0, 8, 16)
	case api.LC:
		i.B, i.Imm = of(d, 9, 14), 0
	case api.SC:
		i.A, i.B, i.Imm = 8, 9, 0
		if d.oneIn(2) {
			i.A, i.B = 13, 14
		}
	}
	return l, i
}

// handed lays in the first registers what is of these types.
func (d dice) handed(types []api.Type) []api.Inst {
	var l []api.Inst
	for k, t := range types {
		i := api.Inst{Op: api.LI, A: 1 + k, Imm: d.IntN(100)}
		switch t {
		case firstSlot():
			i = api.Inst{Op: api.MOV, A: 1 + k, B: 8}
		case secondSlot():
			i = api.Inst{Op: api.MOV, A: 1 + k, B: 13}
		}
		l = append(l, i)
	}
	return l
}

// change lays a chunk somewhere in the code of a compartment, and answers how to take it back.
func (d dice) change(m *api.Image, comp int) func() {
	code := m.Comps[comp].Code
	was := slices.Clone(code)
	at := d.IntN(len(code))
	copy(code[at:], d.chunk(*m, comp, at))
	return func() { copy(code, was) }
}

// any is a right program in which anything may stand.
func (d dice) any() api.Image {
	m := d.yard()
	for range d.IntN(30) {
		d.change(&m, d.IntN(len(m.Comps)))
	}
	return m
}

// only is a program with one of its compartments; the others are there, but do nothing.
func only(m api.Image, comp int) api.Image {
	m.Comps, m.Gates = slices.Clone(m.Comps), slices.Clone(m.Gates)
	for k := range m.Comps {
		if k != comp {
			m.Comps[k].Code = []api.Inst{{Op: api.TRAP}}
		}
	}
	for k := range m.Gates {
		if m.Gates[k].Comp != comp {
			m.Gates[k].Entry = 0
		}
	}
	return m
}

// taken is a program in which much goes on, and which is taken.
func (d dice) taken() api.Image {
	m := d.yard()
	for comp := range m.Comps {
		for range 24 {
			// No gate's check hangs on the code of another compartment.
			if takeBack := d.change(&m, comp); checker.Check(only(m, comp)).Reason != api.Fine {
				takeBack()
			}
		}
	}
	return m
}

// counting is a program whose rounds are counted, so that they stay within bounds; the checker mostly widens too far to see it.
func (d dice) counting() api.Image {
	m := d.yard()
	from, step := d.IntN(4), 1+d.IntN(3)
	end := from + 4 + d.IntN(30)
	m.Regions = []api.Region{{Base: 0, Len: 32, Data: "some bytes"}}
	m.Comps[0].Roots = []api.Root{{Reg: 8, Cap: api.Cap{End: 32, Perms: rw}}}
	touch := of(d, api.Inst{Op: api.LB, A: 2, B: 6}, api.Inst{Op: api.SB, A: 1, B: 6}, api.Inst{Op: api.LB, A: 3, B: 6, Imm: d.IntN(3)})
	again := of(d,
		[]api.Inst{{Op: api.BLT, A: 1, B: 4, Imm: 2}, {Op: api.HALT, A: 1}},
		[]api.Inst{{Op: api.GLT, A: 1, Imm: end, C: 9}, {Op: api.JMP, Imm: 2}},
		[]api.Inst{{Op: api.BGE, A: 1, B: 4, Imm: 7}, {Op: api.JMP, Imm: 2}})
	m.Comps[0].Code = []api.Inst{
		{Op: api.LI, A: 1, Imm: from}, {Op: api.LI, A: 4, Imm: end},
		{Op: api.CINC, A: 6, B: 8, C: 1}, touch, {Op: api.ADDI, A: 1, B: 1, Imm: step},
		again[0], again[1], {Op: api.HALT, A: 1},
	}
	for k := range m.Gates {
		g := &m.Gates[k]
		if g.Comp == 0 {
			*g = api.Gate{}
		} else {
			g.Comp, g.Entry, g.Args, g.Results = 1, 0, nil, nil
		}
	}
	m.Comps[1].Code = []api.Inst{of(d, api.Inst{Op: api.TRAP, Imm: 3}, api.Inst{Op: api.JMP}, api.Inst{Op: api.CALL})}
	if m.Comps[1].Code[0].Op == api.CALL {
		m.Comps[1].Code = append(m.Comps[1].Code, api.Inst{Op: api.RET})
	}
	m.Comps = m.Comps[:2]
	return m
}

// patient is what is known ahead of each instruction, where nothing is ever widened; false, if that does not come to an end soon.
func patient(m api.Image) (api.Table, bool) {
	t := make(api.Table, len(m.Gates))
	for gate, g := range m.Gates {
		states := make([]api.State, len(m.Comps[g.Comp].Code))
		states[g.Entry] = transfer.Entry(m, gate)
		t[gate] = states
		rounds := 0
		for isNew := true; isNew; rounds++ {
			if rounds == 100 {
				return nil, false
			}
			isNew = false
			for pc := range states {
				for _, n := range transfer.Do(m, gate, pc, states[pc]).Next {
					now := regtype.JoinState(states[n.Pc], n.State)
					isNew = isNew || now != states[n.Pc]
					states[n.Pc] = now
				}
			}
		}
	}
	return t, true
}

// some are that many things made by dice, each by its own seed; at once, as programs that are taken are long sought.
func some[T any](n int, first uint64, one func(d dice) T) []T {
	l := make([]T, n)
	var all sync.WaitGroup
	for k := range l {
		all.Go(func() { l[k] = one(rolled(first + uint64(k))) })
	}
	all.Wait()
	return l
}

// many are programs that are taken, for all tests; nobody writes into them.
var many = sync.OnceValue(func() []api.Image { return some(220, 1000, dice.taken) })

// around is a span that may reach beyond another one.
func (d dice) around(s api.Span) api.Span {
	return of(d, api.Span{Lo: s.Lo, Hi: s.Hi + min(8, top-s.Hi)}, api.Span{Lo: s.Lo - min(3, s.Lo), Hi: s.Hi}, api.Span{Lo: 0, Hi: top}, api.Span{Lo: 0, Hi: s.Hi})
}

// within is a span that lies in another one.
func (d dice) within(s api.Span) api.Span {
	n := s.Hi - s.Lo
	return of(d, s, api.Span{Lo: s.Lo, Hi: s.Lo}, api.Span{Lo: s.Lo + n/2, Hi: s.Hi}, api.Span{Lo: s.Lo, Hi: s.Hi - min(n, 1)}, api.Span{Lo: s.Lo + min(n, 1), Hi: s.Hi})
}

// vaguer is a state in which less is known of a register.
func (d dice) vaguer(s api.State) api.State {
	r := &s.Regs[d.IntN(api.Regs)]
	switch {
	case d.oneIn(3):
		*r = api.RType{}
	case r.Kind == api.AnInt:
		r.N = d.around(r.N)
	case r.Kind == api.ACap:
		x := of(d, &r.Base, &r.End, &r.Point)
		*x = d.around(*x)
		r.May |= api.Perms(d.IntN(128)) & api.Perms(d.IntN(128))
		r.Must &= r.May & api.Perms(d.IntN(128)|d.IntN(128))
		if d.oneIn(4) {
			r.Seal = -1
		}
	}
	return s
}

// finer is a state in which more is said of a register, or something else.
func (d dice) finer(s api.State) api.State {
	r := &s.Regs[d.IntN(api.Regs)]
	switch {
	case d.oneIn(8) || r.Kind == api.Any:
		*r = of(d, single(d.number()), anyInt(), regtype.Exact(of(d, pool()...)))
	case r.Kind == api.AnInt:
		r.N = d.within(r.N)
	case r.Kind == api.ACap:
		x := of(d, &r.Base, &r.End, &r.Point)
		*x = d.within(*x)
		r.May &= r.Must | api.Perms(d.IntN(128))
		r.Must |= r.May & api.Perms(d.IntN(128)) & api.Perms(d.IntN(128))
		if d.oneIn(6) {
			r.Seal = d.IntN(16)
		}
	}
	return s
}

// turned is what a certificate says as a table, with some changes: states that are left out, laid there (also where nobody comes), or say less, more, or something else.
func (d dice) turned(m api.Image, x api.Table) api.Table {
	x = copied(x)
	for range 1 + d.IntN(3) {
		gate := d.IntN(len(x))
		pc := d.IntN(len(x[gate]))
		if live := slices.IndexFunc(x[gate][pc:], func(s api.State) bool { return s.Live }); live >= 0 && !d.oneIn(4) {
			pc += live
		}
		s := &x[gate][pc]
		switch {
		case !s.Live:
			*s = of(d, transfer.Entry(m, gate), api.State{Live: true})
		case d.oneIn(4):
			*s = api.State{}
		case d.oneIn(2):
			*s = d.vaguer(*s)
		default:
			*s = d.finer(*s)
		}
	}
	return x
}

// bent is bytes with some changes.
func (d dice) bent(s string) string {
	b := []byte(s)
	for range 1 + d.IntN(3) {
		at := d.IntN(len(b) + 1)
		switch d.IntN(5) {
		case 0:
			b = b[:at]
		case 1:
			b = slices.Insert(b, at, of(d, 0, 1, 2, 255, byte(d.IntN(256))))
		case 2:
			b = slices.Delete(b, max(0, at-1), at)
		default:
			if at < len(b) {
				b[at] = of(d, 0, 1, 2, 3, 255, b[at]+1, b[at]-1, b[at]^128, byte(d.IntN(256)))
			}
		}
		if len(b) == 0 {
			break
		}
	}
	return string(b)
}
