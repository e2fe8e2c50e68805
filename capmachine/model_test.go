package capmachine_test

import (
	"maps"
	"slices"

	"paddock/api"
	"paddock/capword"
)

// needs tells which operands of an operation must be an integer (small letters), or a capability (big ones), in the order in which they are looked at.
var needs = map[api.Op]string{
	api.ADD: "bc", api.SUB: "bc", api.MUL: "bc", api.AND: "bc", api.OR: "bc", api.XOR: "bc", api.SHL: "bc", api.SHR: "bc", api.ADDI: "b", api.SLT: "bc", api.SEQ: "bc",
	api.BEQ: "ab", api.BNE: "ab", api.BLT: "ab", api.BGE: "ab", api.JC: "A", api.HALT: "a", api.OUT: "a",
	api.CINC: "Bc", api.CINCI: "B", api.CSETB: "Bc", api.CSETBI: "B", api.CANDP: "B", api.CSEAL: "BC", api.CUNSEAL: "BC",
	api.CADDR: "B", api.CBASE: "B", api.CEND: "B", api.CPERM: "B", api.CSEALED: "B",
	api.LB: "B", api.LW: "B", api.SB: "aB", api.SW: "aB", api.LC: "B", api.SC: "B",
	api.GLT: "a", api.GGE: "a", api.GIN: "A", api.GPERM: "A", api.GSEAL: "A",
}

// model is a run reckoned with in the plainest way.
type model struct {
	m       api.Image
	at      api.Snap
	stack   []api.Snap
	inputs  []uint64
	out     []uint64
	touches []api.Touch
	bytes   [api.MaxMem]byte
	caps    map[uint64]api.Cap
	over    api.Outcome
}

func newModel(m api.Image, gate int, args, inputs []uint64) *model {
	r := &model{m: m, inputs: inputs, caps: map[uint64]api.Cap{}}
	for _, g := range m.Regions {
		copy(r.bytes[g.Base:], g.Data)
		for k, s := range g.Slots {
			c := api.Cap{Base: s.Type.Base, End: s.Type.End, Cursor: s.Cursor, Perms: s.Type.Perms, Seal: s.Type.Seal}
			r.storeCap(g.Base+16*uint64(k), holding(c))
		}
	}
	for k, n := range args {
		r.at.Regs[1+k] = integer(n)
	}
	r.enter(gate)
	return r
}

// enter keeps a gate's arguments alone of the registers, and lays the roots beside them.
func (r *model) enter(gate int) {
	g := r.m.Gates[gate]
	for k := range r.at.Regs {
		if k == 0 || k > len(g.Args) {
			r.at.Regs[k] = api.Value{}
		}
	}
	for _, root := range r.m.Comps[g.Comp].Roots {
		r.at.Regs[root.Reg] = holding(root.Cap)
	}
	r.at.Gate, r.at.Pc = gate, g.Entry
}

func (r *model) store(addr uint64, size uint64, n uint64) {
	for k := range size {
		r.bytes[addr+k] = byte(n >> (8 * k))
		delete(r.caps, (addr+k)/16*16)
	}
}

func (r *model) storeCap(addr uint64, v api.Value) {
	r.store(addr, 8, v.N+v.C.Cursor)
	r.store(addr+8, 8, 0)
	if v.Tag {
		r.caps[addr] = v.C
	}
}

func (r *model) load(addr uint64, size uint64) uint64 {
	var n uint64
	for k := range size {
		n |= uint64(r.bytes[addr+k]) << (8 * k)
	}
	return n
}

func (r *model) look() look {
	return look{snap: r.at, out: r.out, touches: r.touches, bytes: string(r.bytes[:]), caps: maps.Clone(r.caps)}
}

// ends is an outcome at what is at hand.
func (r *model) ends(end api.End, value uint64, f api.Fault) api.Outcome {
	return api.Outcome{End: end, Value: value, Fault: f, Gate: r.at.Gate, Pc: r.at.Pc}
}

func (r *model) faults(f api.Fault) api.Outcome { return r.ends(api.Faulted, 0, f) }

// step does one step.
func (r *model) step() api.Outcome {
	if r.over.End != api.Running {
		return r.over
	}
	code := r.m.Comps[r.m.Gates[r.at.Gate].Comp].Code
	if r.at.Pc == len(code) {
		r.over = r.faults(api.FTarget)
		return r.over
	}
	i := code[r.at.Pc]
	r.over = r.lacks(i)
	if r.over.End == api.Running {
		r.over = r.does(i)
	}
	if r.over.End != api.Running {
		return r.over
	}
	return r.ends(api.Running, 0, 0)
}

// lacks is the fault of an operand that is not what is needed.
func (r *model) lacks(i api.Inst) api.Outcome {
	for _, letter := range needs[i.Op] {
		v := r.at.Regs[map[rune]int{'a': i.A, 'b': i.B, 'c': i.C}[letter|32]]
		switch small := letter >= 'a'; {
		case small && v.Tag:
			return r.faults(api.FInt)
		case !small && !v.Tag:
			return r.faults(api.FTag)
		}
	}
	return api.Outcome{}
}

// does does an instruction whose operands are what is needed.
func (r *model) does(i api.Inst) api.Outcome {
	// Of a guard C is a code, and no register.
	a, b, c, imm := r.at.Regs[i.A], r.at.Regs[i.B], r.at.Regs[i.C%16], uint64(i.Imm)
	flag := map[bool]uint64{true: 1}
	switch i.Op {
	case api.LI:
		return r.answer(i, integer(imm))
	case api.MOV:
		return r.answer(i, b)
	case api.ADD, api.SUB, api.MUL, api.AND, api.OR, api.XOR, api.SHL, api.SHR, api.SLT, api.SEQ:
		return r.answer(i, integer(map[api.Op]uint64{
			api.ADD: b.N + c.N, api.SUB: b.N - c.N, api.MUL: b.N * c.N, api.AND: b.N & c.N, api.OR: b.N | c.N, api.XOR: b.N ^ c.N,
			api.SHL: b.N << (c.N & 63), api.SHR: b.N >> (c.N & 63), api.SLT: flag[b.N < c.N], api.SEQ: flag[b.N == c.N],
		}[i.Op]))
	case api.ADDI:
		return r.answer(i, integer(b.N+imm))
	case api.JMP, api.BEQ, api.BNE, api.BLT, api.BGE:
		if map[api.Op]bool{api.JMP: true, api.BEQ: a.N == b.N, api.BNE: a.N != b.N, api.BLT: a.N < b.N, api.BGE: a.N >= b.N}[i.Op] {
			return r.goes(i.Imm)
		}
		return r.goes(r.at.Pc + 1)
	case api.CPC:
		return r.answer(i, holding(r.code(i.Imm)))
	case api.JC:
		return r.jumps(a.C)
	case api.HALT:
		return r.ends(api.Halted, a.N, 0)
	case api.TRAP:
		return r.ends(api.Trapped, imm, 0)
	case api.IN:
		if len(r.inputs) == 0 {
			return r.ends(api.Starved, 0, 0)
		}
		n := r.inputs[0]
		r.inputs = r.inputs[1:]
		return r.answer(i, integer(n))
	case api.OUT:
		r.out = append(r.out, a.N)
		return r.goes(r.at.Pc + 1)
	case api.CALL:
		return r.calls(i.Imm)
	case api.RET:
		return r.returns()
	}
	return r.doesWithCaps(i, a, b, c, imm)
}

func (r *model) answer(i api.Inst, v api.Value) api.Outcome {
	r.at.Regs[i.A] = v
	return r.goes(r.at.Pc + 1)
}

func (r *model) goes(pc int) api.Outcome {
	r.at.Pc = pc
	return api.Outcome{}
}

func (r *model) code(pc int) api.Cap {
	comp := r.m.Gates[r.at.Gate].Comp
	base := uint64(1048576 + 65536*comp)
	return api.Cap{Base: base, End: base + 8*uint64(len(r.m.Comps[comp].Code)), Cursor: base + 8*uint64(pc), Perms: api.Exec}
}

func (r *model) jumps(c api.Cap) api.Outcome {
	if f := capword.Access(c, 0, 8, api.Exec); f != api.NoFault {
		return r.faults(f)
	}
	for pc := range r.m.Comps[r.m.Gates[r.at.Gate].Comp].Code {
		if r.code(pc).Cursor == c.Cursor {
			return r.goes(pc)
		}
	}
	return r.faults(api.FTarget)
}

// fit tells whether the first registers are of these types.
func (r *model) fit(types []api.Type) bool {
	for k, t := range types {
		v := r.at.Regs[1+k]
		c := v.C
		right := c.Base == t.Base && c.End == t.End && c.Perms == t.Perms && c.Seal == t.Seal && t.Lo <= c.Cursor && c.Cursor <= t.Hi
		if v.Tag != t.Cap || v.Tag && !right {
			return false
		}
	}
	return true
}

func (r *model) calls(gate int) api.Outcome {
	if !r.fit(r.m.Gates[gate].Args) {
		return r.faults(api.FGate)
	}
	if len(r.stack) == r.m.Depth {
		return r.ends(api.Overflow, 0, 0)
	}
	r.stack = append(r.stack, r.at)
	r.at.Depth++
	r.enter(gate)
	return api.Outcome{}
}

func (r *model) returns() api.Outcome {
	results := r.m.Gates[r.at.Gate].Results
	if !r.fit(results) {
		return r.faults(api.FGate)
	}
	if len(r.stack) == 0 {
		v := r.at.Regs[1]
		if len(results) == 0 {
			v = api.Value{}
		}
		return r.ends(api.Halted, v.N+v.C.Cursor, 0)
	}
	old := r.stack[len(r.stack)-1]
	r.stack = slices.Clone(r.stack[:len(r.stack)-1])
	for k := range results {
		old.Regs[1+k] = r.at.Regs[1+k]
	}
	r.at = old
	return r.goes(old.Pc + 1)
}

func (r *model) doesWithCaps(i api.Inst, a, b, c api.Value, imm uint64) api.Outcome {
	flag := map[bool]uint64{true: 1}
	switch i.Op {
	case api.CINC:
		return r.makes(i)(capword.Inc(b.C, c.N))
	case api.CINCI:
		return r.makes(i)(capword.Inc(b.C, imm))
	case api.CSETB:
		return r.makes(i)(capword.SetBounds(b.C, c.N))
	case api.CSETBI:
		return r.makes(i)(capword.SetBounds(b.C, imm))
	case api.CANDP:
		return r.makes(i)(capword.AndPerm(b.C, api.Perms(imm)))
	case api.CSEAL:
		return r.makes(i)(capword.SealBy(b.C, c.C))
	case api.CUNSEAL:
		return r.makes(i)(capword.UnsealBy(b.C, c.C))
	case api.CADDR, api.CBASE, api.CEND, api.CPERM, api.CSEALED, api.CTAG, api.CSAME:
		return r.answer(i, integer(map[api.Op]uint64{
			api.CADDR: b.C.Cursor, api.CBASE: b.C.Base, api.CEND: b.C.End, api.CPERM: uint64(b.C.Perms), api.CSEALED: uint64(b.C.Seal),
			api.CTAG: flag[b.Tag], api.CSAME: flag[b.Tag && c.Tag && b.C == c.C],
		}[i.Op]))
	case api.LB, api.LW, api.SB, api.SW, api.LC, api.SC:
		return r.uses(i, a, b.C)
	}
	open := a.C.Seal == 0 && a.C.Base <= a.C.Cursor && a.C.Cursor <= a.C.End && imm <= a.C.End-a.C.Cursor
	if map[api.Op]bool{api.GLT: a.N < imm, api.GGE: a.N >= imm, api.GTAG: a.Tag, api.GIN: open, api.GPERM: int(a.C.Perms)&i.Imm == i.Imm, api.GSEAL: a.C.Seal == i.Imm}[i.Op] {
		return r.goes(r.at.Pc + 1)
	}
	return r.ends(api.Guarded, uint64(i.C), 0)
}

func (r *model) makes(i api.Inst) func(c api.Cap, f api.Fault) api.Outcome {
	return func(c api.Cap, f api.Fault) api.Outcome {
		if f != api.NoFault {
			return r.faults(f)
		}
		return r.answer(i, holding(c))
	}
}

func (r *model) uses(i api.Inst, a api.Value, c api.Cap) api.Outcome {
	size := map[api.Op]uint64{api.LB: 1, api.SB: 1, api.LW: 8, api.SW: 8, api.LC: 16, api.SC: 16}[i.Op]
	perm := map[api.Op]api.Perms{api.LB: 1, api.LW: 1, api.SB: 2, api.SW: 2, api.LC: 4, api.SC: 8}[i.Op]
	addr := c.Cursor + uint64(i.Imm)
	if f := capword.Access(c, uint64(i.Imm), size, perm); f != api.NoFault {
		return r.faults(f)
	}
	if size == 16 && addr%16 != 0 {
		return r.faults(api.FAlign)
	}
	if addr >= api.MaxMem || size > api.MaxMem-addr {
		return r.faults(api.FBounds)
	}
	isStore := perm == api.Store || perm == api.StoreCap
	r.touches = append(r.touches, api.Touch{Store: isStore, Addr: addr, Size: size})
	switch {
	case i.Op == api.SC:
		r.storeCap(addr, a)
		return r.goes(r.at.Pc + 1)
	case isStore:
		r.store(addr, size, a.N)
		return r.goes(r.at.Pc + 1)
	case i.Op == api.LC:
		if held, tag := r.caps[addr]; tag {
			return r.answer(i, holding(held))
		}
		size = 8
	}
	return r.answer(i, integer(r.load(addr, size)))
}
