package link_test

import (
	"fmt"
	"math/rand/v2"
	"slices"
	"strings"

	"paddock/api"
	"paddock/instr"
)

// dice makes modules, the same in each run of the tests.
type dice struct{ *rand.Rand }

func rolled(seed uint64) dice { return dice{rand.New(rand.NewPCG(seed, 17))} }

// of is one of a list.
func of[T any](d dice, l ...T) T { return l[d.IntN(len(l))] }

const rw = api.Load | api.Store

const top = ^uint64(0)

// yard is where the modules of a family lie.
type yard struct {
	bytes, slots []uint64 // of each the region of bytes, and that of slots
}

func (d dice) yard(n int) yard {
	y := yard{}
	for _, at := range d.Perm(4)[:n] {
		y.bytes = append(y.bytes, 64*uint64(at))
	}
	for _, at := range d.Perm(4)[:n] {
		y.slots = append(y.slots, of[uint64](d, 32, 1024)+64*uint64(at))
	}
	return y
}

// lent and sealed are types of capabilities of a module's bytes.
func (y yard) lent(k int) api.Type {
	at := y.bytes[k]
	return api.Type{Cap: true, Base: at, End: at + 32, Lo: at, Hi: at + 16, Perms: rw}
}

func (y yard) sealed(k int) api.Type {
	at := y.bytes[k]
	return api.Type{Cap: true, Base: at, End: at + 32, Lo: at + 4, Hi: at + 4, Perms: api.Load, Seal: 2}
}

func capOf(t api.Type, further uint64) api.Cap {
	return api.Cap{Base: t.Base, End: t.End, Cursor: t.Lo + further, Perms: t.Perms, Seal: t.Seal}
}

func (y yard) regions(d dice, k int) []api.Region {
	data := make([]byte, d.IntN(33))
	for n := range data {
		data[n] = byte(1 + d.IntN(255))
	}
	l := []api.Region{
		{Base: y.bytes[k], Len: 32, Data: string(data)},
		{Base: y.slots[k], Len: 32, Slots: []api.Slot{{Type: y.lent(k), Cursor: y.bytes[k] + 8}, {Type: y.sealed(k), Cursor: y.bytes[k] + 4}}},
	}
	slices.SortFunc(l, func(a, b api.Region) int { return int(a.Base) - int(b.Base) })
	return l
}

// roots are what a compartment of a module has: what is its own, and what it may lend others of theirs.
func (y yard) roots(k int) []api.Root {
	l := []api.Root{
		{Reg: 8, Cap: capOf(y.lent(k), 8)},
		{Reg: 9, Cap: api.Cap{Base: y.slots[k], End: y.slots[k] + 32, Cursor: y.slots[k], Perms: api.LoadCap | api.StoreCap}},
		{Reg: 10, Cap: api.Cap{Base: 1, End: 16, Cursor: 2, Perms: api.Seal | api.Unseal}},
		{Reg: 11, Cap: capOf(y.sealed(k), 0)},
	}
	for n := 1; n < len(y.bytes); n++ {
		l = append(l, api.Root{Reg: 11 + n, Cap: capOf(y.lent((k+n)%len(y.bytes)), uint64(n))})
	}
	if len(y.bytes) > 1 {
		l = append(l, api.Root{Reg: 15, Cap: capOf(y.sealed((k+1)%len(y.bytes)), 0)})
	}
	return l
}

// types are those of arguments or results of a gate of a module.
func (d dice) types(y yard, k int) []api.Type {
	var l []api.Type
	for range d.IntN(3) {
		l = append(l, of(d, api.Type{}, api.Type{}, api.Type{}, api.Type{}, y.lent(k), y.sealed(k)))
	}
	return l
}

// family are modules that can be linked and do nothing yet; bodies tells of each compartment where something may be laid.
func (d dice) family() (l []api.Module, bodies [][][]int) {
	n := 1 + d.IntN(4)
	y := d.yard(n)
	comps := slices.Repeat([]int{1}, n)
	for range d.IntN(5 - n) {
		comps[d.IntN(n)]++
	}
	gives := make([][]api.Gate, n)
	for k := range n {
		for range 1 + d.IntN(3) {
			gives[k] = append(gives[k], api.Gate{Args: d.types(y, k), Results: d.types(y, k)})
		}
	}
	for k := range n {
		m, at := d.module(y, k, comps[k], gives)
		l, bodies = append(l, m), append(bodies, at)
	}
	return l, bodies
}

// nameOf is the name of a module's gate; some have none.
func nameOf(k, gate int) string {
	if (k+gate)%4 == 3 {
		return ""
	}
	return fmt.Sprintf("m%d_%d", k, gate)
}

// wanted is a gate that is to be in a module: its name, or what it stands for.
type wanted struct {
	gate       api.Gate
	name, need string
}

// wants are the gates of a module, in any order: its own, and those that stand for others.
func (d dice) wants(k int, gives [][]api.Gate) []wanted {
	var l []wanted
	needy := d.IntN(3) > 0
	for j := range gives {
		for gate, g := range gives[j] {
			switch {
			case j == k:
				l = append(l, wanted{gate: g, name: nameOf(j, gate)})
			case needy && nameOf(j, gate) != "" && d.IntN(2) == 0:
				l = append(l, wanted{gate: g, need: nameOf(j, gate)})
				if d.IntN(6) == 0 {
					l = append(l, l[len(l)-1])
				}
			}
		}
	}
	d.Shuffle(len(l), func(a, b int) { l[a], l[b] = l[b], l[a] })
	return l[:min(len(l), 16)]
}

const body = 9

// module is one of a family. Each gate has a row of instructions of its own, which ends with RET; those that stand for others have little else.
func (d dice) module(y yard, k, comps int, gives [][]api.Gate) (api.Module, [][]int) {
	m := api.Module{Image: api.Image{Depth: 1 + d.IntN(4), Regions: y.regions(d, k), Comps: make([]api.Comp, comps)}}
	bodies := make([][]int, comps)
	for n := range m.Image.Comps {
		m.Image.Comps[n].Roots = y.roots(k)
		m.Image.Comps[n].Code = []api.Inst{{Op: api.TRAP, Imm: n}}
	}
	for n, w := range d.wants(k, gives) {
		g := w.gate
		g.Args, g.Results = slices.Clone(g.Args), slices.Clone(g.Results)
		g.Comp = d.IntN(comps)
		c := &m.Image.Comps[g.Comp]
		g.Entry = len(c.Code)
		if w.need != "" {
			m.Needs = append(m.Needs, api.Need{Gate: n, Name: w.need})
		} else {
			bodies[g.Comp] = append(bodies[g.Comp], g.Entry)
			c.Code = append(c.Code, slices.Repeat([]api.Inst{{Op: api.MOV}}, body)...)
		}
		c.Code = append(c.Code, d.handed(c.Roots, g.Results)...)
		c.Code = append(c.Code, d.last(c.Roots, g.Results))
		m.Image.Gates, m.Names = append(m.Image.Gates, g), append(m.Names, w.name)
	}
	return m, bodies
}

// rootOf is the register of a root that is of a type; 0, if there is none.
func rootOf(roots []api.Root, t api.Type) int {
	for _, r := range roots {
		if t.Cap && r.Cap == capOf(t, r.Cap.Cursor-t.Lo) {
			return r.Reg
		}
	}
	return 0
}

// handed lays in the first registers what is of these types, as far as there are roots for it.
func (d dice) handed(roots []api.Root, types []api.Type) []api.Inst {
	var l []api.Inst
	for k, t := range types {
		i := of(d, api.Inst{Op: api.LI, A: 1 + k, Imm: d.IntN(100)}, api.Inst{Op: api.ADDI, A: 1 + k, B: 5, Imm: d.IntN(9)})
		if t.Cap {
			i = api.Inst{Op: api.MOV, A: 1 + k, B: rootOf(roots, t)}
		}
		l = append(l, i)
	}
	return l
}

// last is RET; or TRAP, where the results can't be had.
func (d dice) last(roots []api.Root, results []api.Type) api.Inst {
	for _, t := range results {
		if t.Cap && rootOf(roots, t) == 0 {
			return api.Inst{Op: api.TRAP, Imm: 9}
		}
	}
	return api.Inst{Op: api.RET}
}

// op is any operation but those of code pointers, and seldom one behind which nothing comes.
func (d dice) op() api.Op {
	op := instr.Find(of(d, opNames()...))
	if op == api.CPC || op == api.JC || strings.Contains(" jmp halt ret ", " "+instr.Name(op)+" ") && d.IntN(6) > 0 {
		return d.op()
	}
	return op
}

// needsCap tells whether an operation has a capability in a field (from 0 on: A, B, C).
func needsCap(op api.Op, field int) bool {
	switch field {
	case 0:
		return op >= api.CINC && op <= api.CUNSEAL || op >= api.LC && op <= api.SC || op >= api.GTAG
	case 1:
		return op >= api.CINC && op <= api.SC
	}
	return op == api.CSEAL || op == api.CUNSEAL || op == api.CSAME
}

func (d dice) register(capability bool, isLaid bool) int {
	switch {
	case !capability:
		return 1 + d.IntN(5)
	case isLaid:
		return 6 + d.IntN(2)
	}
	return 6 + d.IntN(10)
}

// inst is a right instruction of a compartment.
func (d dice) inst(op api.Op, length int, gates int) api.Inst {
	i := api.Inst{Op: op}
	registers := []*int{&i.A, &i.B, &i.C}
	for k, letter := range instr.Shape(op) {
		switch letter {
		case 'r':
			*registers[k] = d.register(needsCap(op, k), k == 0 && op < api.GLT && op != api.SC)
		case 'i':
			i.Imm = of(d, 0, 0, 1, 2, 3, 7, 8, 16, 24, 32)
		case 'n':
			i.Imm = of(d, 0, 1, 4, 8, 16, 17, 32)
		case 'p':
			i.Imm = of(d, 1, 2, 3, 12, 15, 96, 127)
		case 's':
			i.Imm = of(d, 0, 2, 5)
		case 't':
			i.Imm = d.IntN(length)
		case 'g':
			i.Imm = d.IntN(gates)
		case 'c':
			i.C = d.IntN(256)
		}
	}
	if op == api.TRAP {
		i.C, i.Imm = 0, i.C
	}
	return i
}

// chunk is some instructions that may go together.
func (d dice) chunk(m api.Module, comp int) []api.Inst {
	c := m.Image.Comps[comp]
	if d.IntN(6) == 0 {
		call := api.Inst{Op: api.CALL, Imm: d.IntN(len(m.Image.Gates))}
		l := append(d.handed(c.Roots, m.Image.Gates[call.Imm].Args), call)
		return append(l, of(d, api.Inst{Op: api.OUT, A: 1}, api.Inst{Op: api.ADD, A: 5, B: 5, C: 1}, api.Inst{Op: api.MOV}))
	}
	op := d.op()
	if d.IntN(4) == 0 {
		op = of(d, api.CINC, api.IN, api.LB, api.LW, api.SB, api.SW)
	}
	i := d.inst(op, len(c.Code), len(m.Image.Gates))
	switch {
	case i.Op == api.CINC:
		i.A, i.B, i.C = 6, 8, 1
		return []api.Inst{{Op: api.IN, A: 1}, {Op: api.GLT, A: 1, Imm: 16, C: 4}, i, of(d, api.Inst{Op: api.LW, A: 2, B: 6}, api.Inst{Op: api.SB, A: 3, B: 6, Imm: -8}, api.Inst{Op: api.LB, A: 1, B: 6, Imm: -7})}
	case i.Op >= api.LB && i.Op <= api.SW:
		i.B, i.Imm = 8, of(d, -8, 0, 1, 7, 16)
		return []api.Inst{i, {Op: api.OUT, A: of(d, 1, 2, 3)}}
	case i.Op == api.LC:
		i.A, i.B, i.Imm = 6, 9, of(d, 0, 16)
	case i.Op == api.SC:
		i.A, i.B, i.Imm = of(d, 8, 11, 6), 9, of(d, 0, 16)
	case i.Op == api.CUNSEAL:
		i.B, i.C = of(d, 11, 15), 10
	case i.Op == api.CSEAL:
		i.B, i.C = of(d, 8, 12, 6), 10
	}
	return []api.Inst{i}
}

// laid are modules in which anything may stand.
func (d dice) laid() []api.Module {
	return d.changed(func(api.Image, int) bool { return true })
}

// taken are modules in which much goes on, and which the checker takes, each by itself.
func (d dice) taken() []api.Module {
	return d.changed(func(m api.Image, comp int) bool { return isTaken(only(m, comp)) })
}

// changed are modules in whose compartments chunks were laid, each as long as it stays as it must be.
func (d dice) changed(stays func(m api.Image, comp int) bool) []api.Module {
	l, bodies := d.family()
	for k := range l {
		for comp, rows := range bodies[k] {
			for range 12 * len(rows) {
				code := l[k].Image.Comps[comp].Code
				was := slices.Clone(code)
				c := d.chunk(l[k], comp)
				copy(code[of(d, rows...)+d.IntN(body-len(c)+1):], c)
				if !stays(l[k].Image, comp) {
					copy(code, was)
				}
			}
		}
	}
	return l
}

// only is a program with one of its compartments; the others are there, but do nothing. No gate's check hangs on the code of another compartment.
func only(m api.Image, comp int) api.Image {
	m.Comps, m.Gates = slices.Clone(m.Comps), slices.Clone(m.Gates)
	for k := range m.Comps {
		if k != comp {
			m.Comps[k].Code = []api.Inst{{Op: api.TRAP}}
		}
	}
	for k := range m.Gates {
		if m.Gates[k].Comp != comp {
			m.Gates[k].Entry = 0
		}
	}
	return m
}

func (d dice) numbers(n int) []uint64 {
	var l []uint64
	for range n {
		l = append(l, of(d, 0, 1, 2, 3, 5, 8, 15, 16, 31, top, d.Uint64N(40), d.Uint64()))
	}
	return l
}
