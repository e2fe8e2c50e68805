package transfer_test

import (
	"math/rand/v2"

	"paddock/api"
	"paddock/instr"
)

// dice makes instructions and what is known, the same in each run of the tests.
type dice struct{ *rand.Rand }

func rolled(seed uint64) dice { return dice{rand.New(rand.NewPCG(seed, 10))} }

// of is one of a list.
func of[T any](d dice, l ...T) T { return l[d.IntN(len(l))] }

func (d dice) rarely() bool { return d.IntN(12) == 0 }

// ops are the operations that have names.
func ops() []api.Op {
	var l []api.Op
	for n := range 256 {
		if instr.Name(api.Op(n)) != "" {
			l = append(l, api.Op(n))
		}
	}
	return l
}

// needsCap tells whether an operation needs a capability in a field (from 0 on: A, B, C) that it reads.
func needsCap(op api.Op, field int) bool {
	switch field {
	case 0:
		return op == api.JC || op >= api.GTAG && op <= api.GSEAL || op == api.SC
	case 1:
		return op >= api.CINC && op <= api.SC
	}
	return op == api.CSEAL || op == api.CUNSEAL || op == api.CSAME
}

// register is one of r8 to r15, if a capability is needed, and one of r0 to r7 else, mostly.
func (d dice) register(capability bool) int {
	if capability != d.rarely() {
		return 8 + d.IntN(8)
	}
	return d.IntN(8)
}

// inst is a right instruction, in code of so many, where there are so many gates.
func (d dice) inst(op api.Op, code int, gates int) api.Inst {
	i := api.Inst{Op: op}
	registers := []*int{&i.A, &i.B, &i.C}
	for k, letter := range instr.Shape(op) {
		switch letter {
		case 'r':
			*registers[k] = d.register(needsCap(op, k))
		case 'i':
			i.Imm = d.offset(op)
		case 'n':
			i.Imm = of(d, 0, 1, 4, 8, 16, 17, 32, 65536)
		case 'p':
			i.Imm = of(d, 0, 1, 2, 3, 12, 16, 96, 127, d.IntN(128))
		case 's':
			i.Imm = of(d, 0, 1, 5, 15)
		case 't':
			i.Imm = d.IntN(code)
		case 'g':
			i.Imm = d.IntN(gates)
		case 'c':
			i.C = d.IntN(256)
		}
	}
	if op == api.TRAP {
		i.C, i.Imm = 0, i.C
	}
	return i
}

// offset is a number that an instruction has, which is not below 0 for GLT and GGE.
func (d dice) offset(op api.Op) int {
	n := of(d, 0, 0, 1, 7, 8, 15, 16, 16, 24, 31, 32, 48, 1<<31-1)
	if op != api.GLT && op != api.GGE && d.IntN(3) == 0 {
		n = -n
	}
	return n
}

// number is one at the edge of something in the yard, or any.
func (d dice) number() uint64 {
	switch d.IntN(12) {
	case 0:
		return d.Uint64()
	case 1:
		return of(d, top, top-1, top-15, 1<<32, 1<<63)
	case 2:
		return base + uint64(d.IntN(8))*8 - of(d, 0, 0, 0, uint64(1))
	}
	n := uint64(d.IntN(9)) * 16
	return n + of(d, 0, 0, 0, 1, 8, top)
}

func (d dice) span() api.Span {
	lo, hi := d.number(), d.number()
	if d.IntN(2) == 0 {
		return one(lo)
	}
	return s(min(lo, hi), max(lo, hi))
}

// near is a span from n on, of a few numbers at most.
func (d dice) near(n uint64) api.Span {
	if d.IntN(3) > 0 {
		return one(n)
	}
	return s(n, n+min(top-n, d.Uint64N(20)))
}

func (d dice) perms() api.Perms {
	return of(d, api.AllPerms, api.AllPerms, rw, api.LoadCap|api.StoreCap, api.Seal|api.Unseal, api.Exec, api.Perms(d.IntN(128)))
}

func (d dice) seal() int { return of(d, 0, 0, 0, 0, 0, 0, -1, 1, 5, 15) }

// capability is often one that fits into the yard: for its regions, its code, or a key for seals.
func (d dice) capability() api.RType {
	r := capability(d.number(), d.number(), 0, 0, d.perms(), d.seal())
	r.Point = d.span()
	switch d.IntN(8) {
	case 0, 1:
		r.Base, r.End, r.Point = one(0), one(32), d.near(of[uint64](d, 0, 4, 8, 16, 24, 31, 32))
	case 2, 3:
		r.Base, r.End, r.Point = one(0), d.near(1<<32), d.near(uint64(d.IntN(9))*16)
	case 4:
		r.Base, r.End, r.Point = one(48), one(80), d.near(of[uint64](d, 48, 56, 64, 80))
	case 5:
		r = codeCap(d.Uint64N(size))
		r.Seal = d.seal()
		if d.rarely() {
			r.Point = d.span()
		}
	case 6:
		r.Base, r.End, r.Point = d.near(0), one(16), d.near(of[uint64](d, 0, 1, 5, 15, 16))
	}
	switch d.IntN(6) {
	case 0:
		r.Must &= d.perms()
	case 1:
		r.May |= d.perms()
	case 2:
		r.Base = d.span()
	case 3:
		r.End = d.span()
	}
	return r
}

// rtype is a capability, if one is asked for, and an integer else, mostly; and now and then not rightly built.
func (d dice) rtype(capability bool) api.RType {
	var r api.RType
	switch {
	case d.rarely():
	case capability != d.rarely():
		r = d.capability()
	default:
		n := d.span()
		r = integer(n.Lo, n.Hi)
	}
	if d.IntN(40) == 0 {
		r = of(d, wrongOnes()...)
	}
	return r
}

// state has capabilities in r8 to r15, and integers in r0 to r7, mostly; some that are of the slots' types.
func (d dice) state() api.State {
	st := api.State{Live: true}
	for k := range st.Regs {
		st.Regs[k] = d.rtype(k >= 8)
		switch d.IntN(12) {
		case 0:
			st.Regs[k] = capability(0, 32, d.Uint64N(9), 9+d.Uint64N(9), rw, 0)
		case 1:
			st.Regs[k] = capability(8, 16, 3, 3+d.Uint64N(8), 0, 2)
		case 2:
			if k > 0 {
				st.Regs[k] = st.Regs[k-1]
			}
		}
	}
	return st
}

// asked is a program with an instruction in it, now and then as the last one; what is known ahead of it.
func (d dice) asked(op api.Op) (api.Image, api.State) {
	code := size
	if d.IntN(5) == 0 {
		code = at + 1
	}
	m := yard(d.inst(op, code, 3))
	m.Comps[1].Code = m.Comps[1].Code[:code]
	st := d.state()
	// Code is short here, so that what points to it must be, too.
	if code < size && d.IntN(2) == 0 {
		c := codeCap(d.Uint64N(uint64(code)))
		c.End = one(base + uint64(code)*api.Width)
		st.Regs[8+d.IntN(8)] = c
	}
	if d.IntN(2) == 0 {
		d.fit(&st, m.Comps[1].Code[at])
	}
	return m, st
}

// fit lays in an instruction's registers what it may need, as it hardly ever comes together there.
func (d dice) fit(st *api.State, i api.Inst) {
	seal := 1 + d.Uint64N(api.MaxSeal)
	slots := []api.RType{capability(0, 32, 0, d.Uint64N(18), rw, 0), capability(8, 16, 3, 3+d.Uint64N(8), 0, 2)}
	switch i.Op {
	case api.CALL, api.RET:
		st.Regs[1], st.Regs[2] = integer(3, 5), of(d, slots...)
	case api.CSEAL:
		st.Regs[i.C] = keyTo(seal, seal)
	case api.CUNSEAL:
		st.Regs[i.B].Seal = int(seal)
		st.Regs[i.C] = keyTo(seal, seal)
	case api.LB, api.LW, api.SB, api.SW:
		point := 80 + d.Uint64N(26) - uint64(i.Imm)
		st.Regs[i.B] = capability(d.Uint64N(82), 110+d.Uint64N(9), point, max(point, point+d.Uint64N(3)), api.AllPerms, 0)
	case api.LC, api.SC:
		k := d.IntN(2)
		point := 48 + 16*uint64(k) - uint64(i.Imm)
		st.Regs[i.A] = slots[k]
		st.Regs[i.B] = capability(d.Uint64N(64), 64+d.Uint64N(64), point, point, api.LoadCap|api.StoreCap, 0)
	}
}
