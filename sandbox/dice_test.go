package sandbox_test

import (
	"math/rand/v2"
	"slices"
	"strings"

	"paddock/api"
	"paddock/checker"
	"paddock/instr"
)

// dice makes programs, the same in each run of the tests.
type dice struct{ *rand.Rand }

func rolled(seed uint64) dice { return dice{rand.New(rand.NewPCG(seed, 16))} }

// of is one of a list.
func of[T any](d dice, l ...T) T { return l[d.IntN(len(l))] }

func (d dice) rarely() bool { return d.IntN(12) == 0 }

// ops are the operations that have names.
func ops() []api.Op {
	var l []api.Op
	for n := range 256 {
		if instr.Name(api.Op(n)) != "" {
			l = append(l, api.Op(n))
		}
	}
	return l
}

// length is how many instructions a compartment of the dice has.
const length = 16

// needsCap tells whether an operation has a capability in a field (from 0 on: A, B, C).
func needsCap(op api.Op, field int) bool {
	switch field {
	case 0:
		return op >= api.CINC && op <= api.CUNSEAL || op >= api.LC && op <= api.SC || op >= api.GTAG || op == api.CPC || op == api.JC
	case 1:
		return op >= api.CINC && op <= api.SC
	}
	return op == api.CSEAL || op == api.CUNSEAL || op == api.CSAME
}

// register is mostly one of r6 to r15, if a capability is meant, and one of r0 to r5 else. What is laid somewhere is mostly laid in r6 or r7, then.
func (d dice) register(capability bool, isLaid bool) int {
	switch {
	case d.rarely():
		return d.IntN(api.Regs)
	case !capability:
		return d.IntN(6)
	case isLaid && d.IntN(5) > 0:
		return 6 + d.IntN(2)
	}
	return 6 + d.IntN(10)
}

// inst is a right instruction, where there are so many gates.
func (d dice) inst(op api.Op, gates int) api.Inst {
	i := api.Inst{Op: op}
	registers := []*int{&i.A, &i.B, &i.C}
	for k, letter := range instr.Shape(op) {
		switch letter {
		case 'r':
			isLaid := k == 0 && op < api.GLT && op != api.SC && op != api.JC
			*registers[k] = d.register(needsCap(op, k), isLaid)
		case 'i':
			i.Imm = d.offset(op)
		case 'n':
			i.Imm = of(d, 0, 1, 4, 8, 16, 17, 32, 65536)
		case 'p':
			i.Imm = of(d, 1, 2, 3, 12, 15, 96, 127, d.IntN(128))
		case 's':
			i.Imm = of(d, 0, 2, 5, 15)
		case 't':
			i.Imm = d.IntN(length)
		case 'g':
			i.Imm = d.IntN(gates)
		case 'c':
			i.C = d.IntN(256)
		}
	}
	if op == api.TRAP {
		i.C, i.Imm = 0, i.C
	}
	return i
}

// offset is a number that an instruction has, which is not below 0 for GLT and GGE.
func (d dice) offset(op api.Op) int {
	n := of(d, 0, 0, 1, 1, 2, 3, 7, 8, 16, 16, 24, 31, 32, 1<<31-1)
	if op != api.GLT && op != api.GGE && d.IntN(3) == 0 {
		n = -n
	}
	return n
}

// number is one at the edge of something, or any.
func (d dice) number() uint64 {
	return of(d, 0, 1, 2, 5, 16, 31, 32, top, d.Uint64N(40), d.Uint64())
}

func (d dice) numbers(n int) []uint64 {
	var l []uint64
	for range n {
		l = append(l, d.number())
	}
	return l
}

// What lies in the slots of the dice's programs.
func firstSlot() api.Type { return api.Type{Cap: true, End: 32, Hi: 16, Perms: rw} }

func secondSlot() api.Type {
	return api.Type{Cap: true, Base: 8, End: 16, Lo: 4, Hi: 4, Perms: api.Load, Seal: 2}
}

// pool are the capabilities of which roots are made: the one with the number k lies in the register 8 + k.
func pool() []api.Cap {
	return []api.Cap{
		{End: 32, Cursor: 8, Perms: rw},
		{Base: 48, End: 80, Cursor: 48, Perms: api.LoadCap | api.StoreCap},
		{Base: 1, End: 16, Cursor: 5, Perms: api.Seal | api.Unseal},
		{End: 32, Cursor: 4, Perms: rw, Seal: 5},
		{End: 1 << 32, Cursor: 80, Perms: api.AllPerms &^ api.Exec},
		{Base: 8, End: 16, Cursor: 4, Perms: api.Load, Seal: 2},
		{Base: 48, End: 80, Cursor: 64, Perms: api.LoadCap | api.StoreCap},
		{End: 32, Cursor: top - 7, Perms: rw},
	}
}

// yard is a right program of three compartments, whose code does nothing, and of gates of all sorts.
func (d dice) yard() api.Image {
	m := api.Image{
		Depth: 1 + d.IntN(4),
		Regions: []api.Region{
			{Base: 0, Len: 16, Data: "some bytes"},
			{Base: 16, Len: 16},
			{Base: 48, Len: 32, Slots: []api.Slot{{Type: firstSlot(), Cursor: 2}, {Type: secondSlot(), Cursor: 4}}},
			{Base: 80, Len: 32, Data: "bytes"},
		},
		Gates: []api.Gate{
			{Comp: 0, Args: []api.Type{{}, {}, {}}},
			{Comp: 1, Args: []api.Type{{}}, Results: []api.Type{{}, firstSlot()}},
			{Comp: 2, Args: []api.Type{firstSlot(), {}}, Results: []api.Type{{}}},
			{Comp: 1, Entry: d.IntN(length), Results: []api.Type{secondSlot()}},
			{Comp: 0, Entry: d.IntN(length), Args: []api.Type{{}, {}}, Results: []api.Type{{}}},
		},
	}
	for range 3 {
		m.Comps = append(m.Comps, d.comp())
	}
	return m
}

func (d dice) comp() api.Comp {
	var c api.Comp
	for k, x := range pool() {
		if !d.rarely() {
			c.Roots = append(c.Roots, api.Root{Reg: 8 + k, Cap: x})
		}
	}
	c.Code = slices.Repeat([]api.Inst{{Op: api.MOV}}, length-1)
	c.Code = append(c.Code, of(d, api.Inst{Op: api.TRAP, Imm: 1}, api.Inst{Op: api.JMP}, api.Inst{Op: api.JMP, Imm: d.IntN(length)}, api.Inst{Op: api.HALT}))
	return c
}

// op is any operation, but seldom one behind which nothing comes, as that leaves much undone.
func (d dice) op() api.Op {
	op := of(d, ops()...)
	if strings.Contains(" jmp halt trap ret ", " "+instr.Name(op)+" ") && d.IntN(4) > 0 {
		return d.op()
	}
	return op
}

// chunk is some instructions that may go together.
func (d dice) chunk(gates []api.Gate) []api.Inst {
	i := d.inst(d.op(), len(gates))
	var l []api.Inst
	switch {
	case i.Op >= api.BEQ && i.Op <= api.BGE && d.IntN(3) > 0:
		// A round that counts, if it goes back.
		l = append(l, api.Inst{Op: api.ADDI, A: i.A, B: i.A, Imm: of(d, 1, 1, -1, 3)})
		i.Imm = d.IntN(1 + i.Imm)
	case i.Op == api.GLT && d.IntN(2) == 0:
		l = append(l, api.Inst{Op: api.ADDI, A: i.A, B: i.A, Imm: 1})
	case i.Op == api.CALL:
		l = d.handed(gates[i.Imm].Args)
	case i.Op == api.RET:
		l = d.handed(of(d, gates...).Results)
	case i.Op == api.JC && !d.rarely():
		l = append(l, api.Inst{Op: api.CPC, A: i.A, Imm: d.IntN(length)})
	case i.Op == api.CSAME && d.IntN(2) == 0:
		// Two that are alike but for where they point.
		l = append(l, api.Inst{Op: api.CINC, A: 6, B: 8, C: d.IntN(6)})
		i.B, i.C = of(d, 6, 8), of(d, 6, 8, 15)
	case i.Op == api.CINC && d.IntN(2) == 0:
		l = append(l, api.Inst{Op: api.GLT, A: i.C, Imm: of(d, 8, 16, 24)})
	case i.Op == api.CSETB && d.IntN(2) == 0:
		l = append(l, api.Inst{Op: api.GLT, A: i.C, Imm: of(d, 1, 8, 16)})
		i.B = 8
	case i.Op == api.CUNSEAL && d.IntN(2) == 0:
		i.B, i.C = 11, 10
	case i.Op == api.CSEAL && d.IntN(2) == 0:
		i.C = 10
	case i.Op >= api.LB && i.Op <= api.SW && d.IntN(2) == 0:
		i.B, i.Imm = of(d, 8, 12), of(d, 0, 8, 16)
	case i.Op == api.LC && d.IntN(2) == 0:
		i.B, i.Imm = of(d, 9, 14), 0
	case i.Op == api.SC && d.IntN(2) == 0:
		i.A, i.B, i.Imm = 13, 14, 0
	case i.Op == api.SC && d.IntN(2) == 0:
		i.A, i.B, i.Imm = 8, 9, 0
	}
	return append(l, i)
}

// handed lays in the first registers what is of these types.
func (d dice) handed(types []api.Type) []api.Inst {
	var l []api.Inst
	for k, t := range types {
		i := api.Inst{Op: api.LI, A: 1 + k, Imm: d.IntN(100)}
		switch t {
		case firstSlot():
			i = api.Inst{Op: api.MOV, A: 1 + k, B: 8}
		case secondSlot():
			i = api.Inst{Op: api.MOV, A: 1 + k, B: 13}
		}
		l = append(l, i)
	}
	return l
}

// change lays a chunk somewhere in the code of a compartment, and answers how to take it back.
func (d dice) change(m *api.Image, comp int) func() {
	code := m.Comps[comp].Code
	was := slices.Clone(code)
	l := d.chunk(m.Gates)
	copy(code[d.IntN(length-len(l)+1):], l)
	return func() { copy(code, was) }
}

// any is a program in which anything may stand.
func (d dice) any() api.Image {
	m := d.yard()
	for range d.IntN(40) {
		d.change(&m, d.IntN(len(m.Comps)))
	}
	return m
}

// only is a program with one of its compartments; the others are there, but do nothing.
func only(m api.Image, comp int) api.Image {
	m.Comps, m.Gates = slices.Clone(m.Comps), slices.Clone(m.Gates)
	for k := range m.Comps {
		if k != comp {
			m.Comps[k].Code = []api.Inst{{Op: api.TRAP}}
		}
	}
	for k := range m.Gates {
		if m.Gates[k].Comp != comp {
			m.Gates[k].Entry = 0
		}
	}
	return m
}

func isTaken(m api.Image) bool { return checker.Check(m).Reason == api.Fine }

// taken is a program in which much goes on, and which is taken.
func (d dice) taken() api.Image {
	m := d.yard()
	for comp := range m.Comps {
		for range 30 {
			// No gate's check hangs on the code of another compartment.
			if takeBack := d.change(&m, comp); !isTaken(only(m, comp)) {
				takeBack()
			}
		}
	}
	return m
}

// memory lays other bytes in a program's regions, and other capabilities in its slots.
func (d dice) memory(m *api.Image) {
	for k := range m.Regions {
		if m.Regions[k].Slots == nil {
			l := make([]byte, m.Regions[k].Len)
			for n := range l {
				l[n] = of(d, 1, 7, 31, 255, byte(d.IntN(255)+1))
			}
			m.Regions[k].Data = string(l)
		}
	}
	for k, s := range m.Regions[2].Slots {
		m.Regions[2].Slots[k].Cursor = s.Type.Lo + d.Uint64N(s.Type.Hi-s.Type.Lo+1)
	}
}
