package trim_test

import (
	"math/rand/v2"
	"slices"
	"sync"

	"paddock/api"
	"paddock/checker"
	"paddock/instr"
)

// dice makes programs, the same in each run of the tests.
type dice struct{ *rand.Rand }

func rolled(seed uint64) dice { return dice{rand.New(rand.NewPCG(seed, 19))} }

// of is one of a list.
func of[T any](d dice, l ...T) T { return l[d.IntN(len(l))] }

func (d dice) oneIn(n int) bool { return d.IntN(n) == 0 }

// ops are the operations that have names.
func ops() []api.Op {
	var l []api.Op
	for n := range 256 {
		if instr.Name(api.Op(n)) != "" {
			l = append(l, api.Op(n))
		}
	}
	return l
}

// needsCap tells whether an operation has a capability in a field (from 0 on: A, B, C).
func needsCap(op api.Op, field int) bool {
	switch field {
	case 0:
		return op >= api.CINC && op <= api.CUNSEAL || op >= api.LC && op <= api.SC || op >= api.GTAG || op == api.CPC || op == api.JC
	case 1:
		return op >= api.CINC && op <= api.SC
	}
	return op == api.CSEAL || op == api.CUNSEAL || op == api.CSAME
}

// register is mostly one of r6 to r15, if a capability is meant, and one of r0 to r5 else. What is laid somewhere is mostly laid in r6 or r7, then.
func (d dice) register(capability bool, isLaid bool) int {
	switch {
	case d.oneIn(12):
		return d.IntN(api.Regs)
	case !capability:
		return d.IntN(6)
	case isLaid && !d.oneIn(5):
		return 6 + d.IntN(2)
	}
	return 6 + d.IntN(10)
}

// inst is a right instruction of a code of so many, where there are so many gates.
func (d dice) inst(op api.Op, size int, gates int) api.Inst {
	i := api.Inst{Op: op}
	registers := []*int{&i.A, &i.B, &i.C}
	for k, letter := range instr.Shape(op) {
		switch letter {
		case 'r':
			isLaid := k == 0 && op < api.GLT && op != api.SC && op != api.JC
			*registers[k] = d.register(needsCap(op, k), isLaid)
		case 'i':
			i.Imm = d.offset(op)
		case 'n':
			i.Imm = of(d, 0, 1, 4, 8, 16, 17, 32, api.MaxMem)
		case 'p':
			i.Imm = of(d, 1, 2, 3, 12, 15, 96, 127, d.IntN(128))
		case 's':
			i.Imm = of(d, 0, 0, 2, 5, 15)
		case 't':
			i.Imm = d.IntN(size)
		case 'g':
			i.Imm = d.IntN(gates)
		case 'c':
			i.C = d.IntN(256)
		}
	}
	if op == api.TRAP {
		i.C, i.Imm = 0, i.C
	}
	return i
}

// offset is a number that an instruction has, which is not below 0 for GLT and GGE.
func (d dice) offset(op api.Op) int {
	n := of(d, 0, 0, 1, 1, 2, 3, 7, 8, 16, 16, 24, 31, 32, 1<<31-1)
	if op != api.GLT && op != api.GGE && d.oneIn(3) {
		n = -n
	}
	return n
}

// number is one at the edge of something, or any.
func (d dice) number() uint64 {
	return of(d, 0, 1, 2, 5, 16, 31, 32, top, d.Uint64N(40), d.Uint64())
}

func (d dice) numbers(n int) []uint64 {
	var l []uint64
	for range n {
		l = append(l, d.number())
	}
	return l
}

// What lies in the slots of the dice's programs.
func firstSlot() api.Type { return api.Type{Cap: true, End: 32, Hi: 16, Perms: rw} }

func secondSlot() api.Type {
	return api.Type{Cap: true, Base: 8, End: 16, Lo: 4, Hi: 4, Perms: api.Load, Seal: 2}
}

// pool are the capabilities of which roots are made: the one with the number k lies in the register 8 + k.
func pool() []api.Cap {
	return []api.Cap{
		{End: 32, Cursor: 8, Perms: rw},
		{Base: 48, End: 80, Cursor: 48, Perms: api.LoadCap | api.StoreCap},
		{Base: 1, End: 16, Cursor: 5, Perms: api.Seal | api.Unseal},
		{End: 32, Cursor: 4, Perms: rw, Seal: 5},
		{End: 1 << 32, Cursor: 80, Perms: api.AllPerms &^ api.Exec},
		{Base: 8, End: 16, Cursor: 4, Perms: api.Load, Seal: 2},
		{Base: 48, End: 80, Cursor: 64, Perms: api.LoadCap | api.StoreCap},
		{End: 32, Cursor: top - 7, Perms: rw},
	}
}

// pointed is the compartment of the dice's programs in which CPC may stand.
const pointed = 1

// yard is a right program of four compartments whose code does little, and of gates of all sorts; the last one has no gate.
func (d dice) yard() api.Image {
	m := api.Image{
		Depth: 1 + d.IntN(4),
		Regions: []api.Region{
			{Base: 0, Len: 16, Data: "some bytes"},
			{Base: 16, Len: 16},
			{Base: 48, Len: 32, Slots: []api.Slot{{Type: firstSlot(), Cursor: 2}, {Type: secondSlot(), Cursor: 4}}},
			{Base: 80, Len: 32, Data: "bytes"},
		},
	}
	for range 4 {
		m.Comps = append(m.Comps, d.comp())
	}
	entry := func(comp int) int { return d.IntN(len(m.Comps[comp].Code)) }
	m.Gates = []api.Gate{
		{Comp: 0, Args: []api.Type{{}, {}, {}}},
		{Comp: 1, Args: []api.Type{{}}, Results: []api.Type{{}, firstSlot()}},
		{Comp: 2, Args: []api.Type{firstSlot(), {}}, Results: []api.Type{{}}},
		{Comp: 1, Entry: entry(1), Results: []api.Type{secondSlot()}},
		{Comp: 0, Entry: entry(0), Args: []api.Type{{}, {}}, Results: []api.Type{{}}},
		{Comp: 0, Entry: entry(0)},
		{Comp: 2, Entry: entry(2)},
	}
	return m
}

func (d dice) comp() api.Comp {
	var c api.Comp
	for k, x := range pool() {
		if !d.oneIn(12) {
			c.Roots = append(c.Roots, api.Root{Reg: 8 + k, Cap: x})
		}
	}
	size := 8 + d.IntN(10)
	for pc := range size - 1 {
		c.Code = append(c.Code, of(d, api.Inst{Op: api.MOV}, api.Inst{Op: api.IN, A: 5}, api.Inst{Op: api.JMP, Imm: pc + 1}, api.Inst{Op: api.LI, A: 4, Imm: d.IntN(9)}))
	}
	c.Code = append(c.Code, of(d, api.Inst{Op: api.TRAP, Imm: 1}, api.Inst{Op: api.JMP}, api.Inst{Op: api.JMP, Imm: d.IntN(size)}, api.Inst{Op: api.HALT}))
	return c
}

// op is any operation that may stand in a compartment, but seldom one behind which nothing comes, as that leaves much undone.
func (d dice) op(comp int) api.Op {
	op := of(d, ops()...)
	isEnd := op == api.HALT || op == api.TRAP || op == api.RET
	if isEnd && !d.oneIn(4) || op == api.CPC && comp != pointed || op == api.JC && comp != pointed && !d.oneIn(6) {
		return d.op(comp)
	}
	return op
}

// chunk is some instructions that may go together, for a place of a compartment.
func (d dice) chunk(m api.Image, comp int, at int) []api.Inst {
	size := len(m.Comps[comp].Code)
	if d.oneIn(4) {
		return d.jumps(size, at)
	}
	i := d.inst(d.op(comp), size, len(m.Gates))
	var l []api.Inst
	switch {
	case i.Op >= api.BEQ && i.Op <= api.BGE && d.oneIn(3):
		// A round that counts, if it goes back.
		l = append(l, api.Inst{Op: api.ADDI, A: i.A, B: i.A, Imm: of(d, 1, 1, -1, 3)})
		i.Imm = d.IntN(1 + i.Imm)
	case i.Op >= api.BEQ && i.Op <= api.BGE && d.oneIn(2):
		// Two numbers that are known.
		l = append(l, api.Inst{Op: api.LI, A: i.A, Imm: d.IntN(3)}, api.Inst{Op: api.LI, A: i.B, Imm: d.IntN(3)})
	case (i.Op == api.GLT || i.Op == api.GGE) && d.oneIn(2):
		l = append(l, api.Inst{Op: api.LI, A: i.A, Imm: of(d, i.Imm, i.Imm+1, i.Imm-1) % (1 << 30)})
	case i.Op >= api.ADD && i.Op <= api.SEQ && i.Op != api.ADDI && d.oneIn(2):
		l = append(l, api.Inst{Op: api.LI, A: i.B, Imm: of(d, 2, 40, 1<<31-1)}, api.Inst{Op: api.LI, A: i.C, Imm: d.offset(api.LI)})
	case i.Op == api.CALL:
		l = d.handed(m.Gates[i.Imm].Args)
	case i.Op == api.RET:
		l = d.handed(of(d, m.Gates...).Results)
	case i.Op == api.JC && comp == pointed && d.oneIn(3):
		i.A = 7
	case i.Op == api.JC && comp == pointed:
		l = append(l, api.Inst{Op: api.CPC, A: i.A, Imm: d.IntN(size)})
	default:
		l, i = d.withCaps(i)
	}
	return append(l, i)
}

// jumps are one to three JMPs, that go forth mostly and not far.
func (d dice) jumps(size int, at int) []api.Inst {
	var l []api.Inst
	for k := range 1 + d.IntN(3) {
		to := d.IntN(size)
		if ahead := at + k + 1; ahead < size && !d.oneIn(6) {
			to = min(size-1, ahead+of(d, 0, 0, 0, 1, 1, 2, 3))
		}
		l = append(l, api.Inst{Op: api.JMP, Imm: to})
	}
	return l
}

// withCaps is an instruction that often has capabilities with which it can be done.
func (d dice) withCaps(i api.Inst) ([]api.Inst, api.Inst) {
	if d.oneIn(2) {
		return nil, i
	}
	var l []api.Inst
	switch i.Op {
	case api.CBASE, api.CEND, api.CPERM, api.CSEALED, api.CTAG:
		i.B = 6
	case api.CSAME:
		// Two that are alike but for where they point.
		l = append(l, api.Inst{Op: api.CINC, A: 6, B: 8, C: d.IntN(6)})
		i.B, i.C = of(d, 6, 8), of(d, 6, 8, 15)
	case api.CINC:
		l = append(l, api.Inst{Op: api.GLT, A: i.C, Imm: of(d, 8, 16, 24)})
	case api.CSETB:
		l = append(l, api.Inst{Op: api.GLT, A: i.C, Imm: of(d, 1, 8, 16)})
		i.B = 8
	case api.CUNSEAL:
		i.B, i.C = 11, 10
	case api.CSEAL:
		i.C = 10
	case api.LB, api.LW, api.SB, api.SW:
		i.B, i.Imm = of(d, 8, 12), of(d, 0, 8, 16)
	case api.LC:
		i.B, i.Imm = of(d, 9, 14), 0
	case api.SC:
		i.A, i.B, i.Imm = 8, 9, 0
		if d.oneIn(2) {
			i.A, i.B = 13, 14
		}
	}
	return l, i
}

// handed lays in the first registers what is of these types.
func (d dice) handed(types []api.Type) []api.Inst {
	var l []api.Inst
	for k, t := range types {
		i := api.Inst{Op: api.LI, A: 1 + k, Imm: d.IntN(100)}
		switch t {
		case firstSlot():
			i = api.Inst{Op: api.MOV, A: 1 + k, B: 8}
		case secondSlot():
			i = api.Inst{Op: api.MOV, A: 1 + k, B: 13}
		}
		l = append(l, i)
	}
	return l
}

// change lays a chunk somewhere in the code of a compartment, from an instruction on, and answers how to take it back.
func (d dice) change(m *api.Image, comp int, from int) func() {
	code := m.Comps[comp].Code
	was := slices.Clone(code)
	at := from + d.IntN(len(code)-from)
	copy(code[at:], d.chunk(*m, comp, at))
	return func() { copy(code, was) }
}

// any is a right program in which anything may stand.
func (d dice) any() api.Image {
	m := d.yard()
	for range d.IntN(40) {
		d.change(&m, d.IntN(len(m.Comps)), 0)
	}
	return m
}

// only is a program with one of its compartments; the others are there, but do nothing.
func only(m api.Image, comp int) api.Image {
	m.Comps, m.Gates = slices.Clone(m.Comps), slices.Clone(m.Gates)
	for k := range m.Comps {
		if k != comp {
			m.Comps[k].Code = []api.Inst{{Op: api.TRAP}}
		}
	}
	for k := range m.Gates {
		if m.Gates[k].Comp != comp {
			m.Gates[k].Entry = 0
		}
	}
	return m
}

// taken is a program in which much goes on, and which is taken.
func (d dice) taken() api.Image {
	m := d.yard()
	for comp := range m.Comps {
		for range 24 {
			// No gate's check hangs on the code of another compartment.
			if takeBack := d.change(&m, comp, 0); checker.Check(only(m, comp)).Reason != api.Fine {
				takeBack()
			}
		}
	}
	return m
}

// meeting is one whose two gates lay, each, something else in r2, r6 and r7, and then meet where that is asked for.
func (d dice) meeting() api.Image {
	comp := d.IntN(2)
	m := only(d.yard(), comp)
	m.Gates = nil
	const meet = 8
	var code []api.Inst
	for len(code) < meet {
		m.Gates = append(m.Gates, api.Gate{Comp: comp, Entry: len(code), Args: []api.Type{{}}})
		third := api.Inst{Op: api.IN, A: 7}
		if comp == pointed {
			third = api.Inst{Op: api.CPC, A: 7, Imm: meet + d.IntN(8)}
		}
		code = append(code, api.Inst{Op: api.LI, A: 2, Imm: d.IntN(3)}, api.Inst{Op: api.MOV, A: 6, B: of(d, 2, 2, 8, 9, 10, 11, 12, 13)}, third, api.Inst{Op: api.JMP, Imm: meet})
	}
	code = append(code, slices.Repeat([]api.Inst{{Op: api.MOV}}, 7)...)
	code[meet+3] = of(d, api.Inst{Op: api.JC, A: 7}, api.Inst{Op: api.CSAME, A: 3, B: 6, C: 8}, api.Inst{Op: api.CBASE + api.Op(d.IntN(5)), A: 3, B: 6})
	m.Comps[comp].Code = append(code, api.Inst{Op: api.RET})
	if !isTaken(m) {
		return d.meeting()
	}
	for range d.IntN(12) {
		if takeBack := d.change(&m, comp, meet); !isTaken(m) {
			takeBack()
		}
	}
	return m
}

// many are programs that are taken, for all tests; nobody writes into them.
var many = sync.OnceValue(func() []api.Image {
	l := make([]api.Image, 600)
	var all sync.WaitGroup
	for k := range l {
		all.Go(func() {
			if d := rolled(uint64(k)); k%3 == 0 {
				l[k] = d.taken()
			} else {
				l[k] = d.meeting()
			}
		})
	}
	all.Wait()
	return l
})
