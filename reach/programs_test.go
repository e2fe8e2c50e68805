package reach_test

import (
	"slices"
	"strings"

	"paddock/api"
	"paddock/capmachine"
	"paddock/checker"
	"paddock/instr"
)

// Of a program of the dice: how many instructions belong to the gate 0, and to each other one; how many steps are done at most, and often at least.
const (
	first = 40
	other = 9
	fuel  = 120
	least = 35
)

// ops are the operations that have names.
func ops() []api.Op {
	var l []api.Op
	for n := range 256 {
		if instr.Name(api.Op(n)) != "" {
			l = append(l, api.Op(n))
		}
	}
	return l
}

// slotTypes are what lies in the slots of the dice's programs, from 48 on: bytes, sealed bytes, all slots, an authority that is sealed.
func slotTypes() []api.Type {
	return []api.Type{
		{Cap: true, End: 32, Hi: 16, Perms: rw},
		{Cap: true, Base: 8, End: 16, Lo: 4, Hi: 4, Perms: api.Load, Seal: 2},
		{Cap: true, Base: 48, End: 112, Lo: 48, Hi: 48, Perms: api.LoadCap | api.StoreCap},
		{Cap: true, Base: 1, End: 16, Lo: 2, Hi: 2, Perms: api.Seal | api.Unseal, Seal: 9},
	}
}

// pool are the capabilities of which roots are made: the one with the number k lies in the register 8 + k.
func pool() []api.Cap {
	return []api.Cap{
		of(0, 32, 8, rw, 0),
		of(48, 112, 48, api.LoadCap|api.StoreCap, 0),
		of(1, 16, 5, api.Seal|api.Unseal, 0),
		of(0, 32, 4, rw, 5),
		of(128, 160, 128, rw|api.LoadCap|api.StoreCap, 0),
		of(8, 16, 4, api.Load, 2),
		of(64, 80, 64, api.LoadCap|api.StoreCap, 0),
		of(9, 10, 9, api.Unseal, 0),
	}
}

// yard is a right program of three compartments, whose code does nothing, and of gates of all sorts. What roots they have differs, so that one has what another one has not.
func (d dice) yard() api.Image {
	types := slotTypes()
	m := api.Image{
		Depth: 1 + d.IntN(4),
		Regions: []api.Region{
			{Base: 0, Len: 32, Data: "some bytes"},
			{Base: 48, Len: 64},
			{Base: 128, Len: 32, Data: "bytes"},
		},
		Gates: []api.Gate{
			{Comp: 0, Args: []api.Type{{}, {}}},
			{Comp: 1, Args: []api.Type{{}}, Results: []api.Type{{}, types[0]}},
			{Comp: 2, Args: []api.Type{types[0], {}}, Results: []api.Type{{}}},
			{Comp: 1, Entry: other, Args: []api.Type{types[1]}, Results: []api.Type{types[3]}},
			{Comp: 2, Entry: other, Results: []api.Type{types[1], types[2]}},
			{Comp: 0, Entry: first, Args: []api.Type{types[2]}, Results: []api.Type{{}}},
		},
	}
	for _, t := range types {
		m.Regions[1].Slots = append(m.Regions[1].Slots, api.Slot{Type: t, Cursor: t.Lo + d.Uint64N(t.Hi-t.Lo+1)})
	}
	m.Comps = []api.Comp{d.comp(first, other), d.comp(other, other), d.comp(other, other)}
	return m
}

func (d dice) comp(sizes ...int) api.Comp {
	var c api.Comp
	for k, x := range pool() {
		if d.IntN(3) > 0 {
			c.Roots = append(c.Roots, api.Root{Reg: 8 + k, Cap: x})
		}
	}
	for _, n := range sizes {
		c.Code = append(c.Code, slices.Repeat([]api.Inst{{Op: api.MOV}}, n-1)...)
		c.Code = append(c.Code, api.Inst{Op: api.TRAP})
	}
	return c
}

// isCap tells whether an operation has a capability in a field (from 0 on: A, B, C).
func isCap(op api.Op, field int) bool {
	switch field {
	case 0:
		return op >= api.CINC && op <= api.CUNSEAL || op >= api.LC && op <= api.SC || op >= api.GTAG || op == api.CPC || op == api.JC
	case 1:
		return op >= api.CINC && op <= api.SC
	}
	return op == api.CSEAL || op == api.CUNSEAL || op == api.CSAME
}

// register is mostly one of r4 to r15, if a capability is meant, and one of r0 to r3 else. What is laid somewhere is mostly laid in r4 to r7, then.
func (d dice) register(capability bool, isLaid bool) int {
	switch {
	case d.rarely():
		return d.IntN(api.Regs)
	case !capability:
		return d.IntN(4)
	case isLaid && d.IntN(5) > 0:
		return 4 + d.IntN(4)
	}
	return 4 + d.IntN(12)
}

// inst is a right instruction of code of this size.
func (d dice) inst(op api.Op, gates int, size int) api.Inst {
	i := api.Inst{Op: op}
	registers := []*int{&i.A, &i.B, &i.C}
	for k, letter := range instr.Shape(op) {
		switch letter {
		case 'r':
			isLaid := k == 0 && op < api.GLT && op != api.SC && op != api.JC
			*registers[k] = d.register(isCap(op, k), isLaid)
		case 'i':
			i.Imm = one(d, 0, 0, 0, 1, 2, 4, 8, 16, 16, 32)
		case 'n':
			i.Imm = one(d, 0, 1, 4, 8, 16, 17, 32)
		case 'p':
			i.Imm = one(d, 1, 3, 4, 12, 15, 32, 64, 96, 127, d.IntN(128))
		case 's':
			i.Imm = one(d, 0, 2, 5, 9)
		case 't':
			i.Imm = d.IntN(size)
		case 'g':
			i.Imm = d.IntN(gates)
		case 'c':
			i.C = d.IntN(256)
		}
	}
	if op == api.TRAP {
		i.C, i.Imm = 0, i.C
	}
	return i
}

// op is any operation, mostly one of capabilities, and seldom one behind which nothing comes, as that leaves much undone.
func (d dice) op() api.Op {
	op := one(d, ops()...)
	if d.IntN(3) == 0 {
		op = one(d, api.MOV, api.CALL, api.RET, api.CPC, api.CINCI, api.CSETBI, api.CANDP, api.CSEAL, api.CSEAL, api.CUNSEAL, api.CUNSEAL, api.LC, api.LC, api.SC, api.SC)
	}
	if strings.Contains(" jmp halt trap ", " "+instr.Name(op)+" ") && d.IntN(4) > 0 {
		return d.op()
	}
	return op
}

// chunk is some instructions that may go together.
func (d dice) chunk(gates []api.Gate, size int) []api.Inst {
	i := d.inst(d.op(), len(gates), size)
	var l []api.Inst
	switch {
	case i.Op == api.CALL:
		l = d.handed(gates[i.Imm].Args)
	case i.Op == api.RET:
		l = d.handed(one(d, gates...).Results)
	case i.Op == api.JC && !d.rarely():
		l = append(l, api.Inst{Op: api.CPC, A: i.A, Imm: d.IntN(size)})
	case i.Op == api.CSEAL && !d.rarely():
		i.B, i.C = d.register(true, false), 10
	case i.Op == api.CUNSEAL && !d.rarely():
		l = one(d, d.shut(i.A)...)
		i = l[len(l)-1]
		l = l[:len(l)-1]
	case i.Op >= api.LB && i.Op <= api.SW && d.IntN(2) == 0:
		i.B, i.Imm = one(d, 8, 12), one(d, 0, 8, 16)
	case i.Op == api.LC && d.IntN(2) == 0:
		i.B, i.Imm = one(d, 9, 12, 14), one(d, 0, 0, 16, 32, 48)
	case i.Op == api.SC && d.IntN(2) == 0:
		i.B, i.Imm = one(d, 9, 12, 12, 14), one(d, 0, 0, 16)
	case i.Op == api.SC && d.IntN(2) == 0:
		// What is of the slot's type.
		i = one(d, api.Inst{Op: api.SC, A: 8, B: 9}, api.Inst{Op: api.SC, A: 13, B: 14}, api.Inst{Op: api.SC, A: 13, B: 9, Imm: 16}, api.Inst{Op: api.SC, A: 9, B: 9, Imm: 32})
	}
	return append(l, i)
}

// shut are ways to have something sealed, and to open it, or to fail in that.
func (d dice) shut(a int) [][]api.Inst {
	return [][]api.Inst{
		{{Op: api.CSEAL, A: 4, B: d.register(true, false), C: 10}, {Op: api.CUNSEAL, A: a, B: 4, C: 10}},
		{{Op: api.CUNSEAL, A: a, B: 11, C: 10}},
		{{Op: api.CINCI, A: 7, B: 10, Imm: -3}, {Op: api.CUNSEAL, A: a, B: 13, C: 7}},
		{{Op: api.LC, A: 6, B: 9, Imm: 48}, {Op: api.CUNSEAL, A: a, B: 6, C: 15}},
		{{Op: api.CUNSEAL, A: a, B: 13, C: 10}},
	}
}

// handed lays in the first registers what is of these types, if there is something.
func (d dice) handed(types []api.Type) []api.Inst {
	var l []api.Inst
	for k, t := range types {
		i := api.Inst{Op: api.LI, A: 1 + k, Imm: d.IntN(100)}
		switch slices.Index(slotTypes(), t) {
		case 0:
			i = api.Inst{Op: api.MOV, A: 1 + k, B: 8}
		case 1:
			i = api.Inst{Op: api.MOV, A: 1 + k, B: 13}
		case 2:
			i = one(d, api.Inst{Op: api.MOV, A: 1 + k, B: 9}, api.Inst{Op: api.LC, A: 1 + k, B: 9, Imm: 32})
		case 3:
			i = api.Inst{Op: api.LC, A: 1 + k, B: 9, Imm: 48}
		}
		l = append(l, i)
	}
	return l
}

// lay lays instructions in code, and takes them back, if the program is not kept so.
func lay(m api.Image, isKept func(m api.Image) bool, code []api.Inst, at int, l []api.Inst) {
	was := slices.Clone(code)
	copy(code[at:], l)
	if !isKept(m) {
		copy(code, was)
	}
}

// made is a program of which each part was kept: first the returns of its gates, as far as there is what they give back; then calls of these, so that other compartments are come to; then chunks.
func (d dice) made(times int, isKept func(m api.Image) bool) api.Image {
	m := d.yard()
	for _, g := range m.Gates[1:] {
		l := append(d.handed(g.Results), api.Inst{Op: api.RET})
		lay(m, isKept, m.Comps[g.Comp].Code, g.Entry+other-len(l), l)
	}
	for k := range 2 * len(m.Gates) {
		gate := k % len(m.Gates)
		l := append(d.handed(m.Gates[gate].Args), api.Inst{Op: api.CALL, Imm: gate})
		lay(m, isKept, m.Comps[0].Code, d.IntN(first-len(l)), l)
	}
	for range times {
		code := one(d, m.Comps[0], m.Comps[0], m.Comps[1], m.Comps[2]).Code
		l := d.chunk(m.Gates, len(code))
		lay(m, isKept, code, d.IntN(len(code)-len(l)+1), l)
	}
	return m
}

// goesFar tells whether a program does not fault, with these inputs, or not soon; and ends not at once, mostly.
func (d dice) goesFar(m api.Image, inputs []uint64) bool {
	x, e := capmachine.New(m, 0, make([]uint64, 2), inputs)
	if e != api.OK {
		return false
	}
	for range least {
		if o := x.Step(); o.End != api.Running {
			return o.End != api.Faulted && d.rarely() && d.rarely()
		}
	}
	return x.Run(fuel).End != api.Faulted
}

// taken is a program in which much goes on, and which is taken.
func (d dice) taken(inputs []uint64) api.Image {
	return d.made(80, func(m api.Image) bool { return d.goesFar(m, inputs) && isTaken(m) })
}

func isTaken(m api.Image) bool { return checker.Check(m).Reason == api.Fine }

// running is a program in which much goes on, taken or not.
func (d dice) running(inputs []uint64) api.Image {
	return d.made(200, func(m api.Image) bool { return d.goesFar(m, inputs) })
}

// wild is a program in which anything may stand.
func (d dice) wild() api.Image {
	return d.made(d.IntN(60), func(m api.Image) bool { return true })
}
