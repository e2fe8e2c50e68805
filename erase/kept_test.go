package erase_test

import (
	"reflect"
	"runtime"
	"slices"
	"sync"
	"testing"

	"paddock/api"
	"paddock/checker"
	"paddock/erase"
	"paddock/image"
)

// grown is a list with three elements behind it, and room tells whether these stand there still.
func grown[T any](l []T, mark T, room *[]func() bool) []T {
	full := append(slices.Clone(l), mark, mark, mark)
	*room = append(*room, func() bool {
		return !slices.ContainsFunc(full[len(l):], func(x T) bool { return !reflect.DeepEqual(x, mark) })
	})
	return full[:len(l)]
}

// roomy is the same program with lists that have room behind them, in which something lies.
func roomy(m api.Image, room *[]func() bool) api.Image {
	r := image.Copy(m)
	r.Regions = grown(r.Regions, api.Region{Base: 77}, room)
	r.Comps = grown(r.Comps, api.Comp{}, room)
	r.Gates = grown(r.Gates, api.Gate{Comp: 77}, room)
	for k := range r.Regions {
		r.Regions[k].Slots = grown(r.Regions[k].Slots, api.Slot{Cursor: 77}, room)
	}
	for k := range r.Comps {
		r.Comps[k].Roots = grown(r.Comps[k].Roots, api.Root{Reg: 77}, room)
		r.Comps[k].Code = grown(r.Comps[k].Code, api.Inst{Op: 77}, room)
	}
	for k := range r.Gates {
		r.Gates[k].Args = grown(r.Gates[k].Args, api.Type{Seal: 77}, room)
		r.Gates[k].Results = grown(r.Gates[k].Results, api.Type{Seal: 77}, room)
	}
	return r
}

// roomyTable is the same table with rows that have room behind them.
func roomyTable(t api.Table, room *[]func() bool) api.Table {
	t = copied(t)
	for gate := range t {
		t[gate] = grown(t[gate], api.State{Live: true, Regs: [api.Regs]api.RType{{Kind: 9}}}, room)
	}
	return grown(t, []api.State{{Live: true}}, room)
}

func sameTable(a api.Table, b api.Table) bool {
	return slices.EqualFunc(a, b, func(x, y []api.State) bool { return slices.Equal(x, y) })
}

// TestWhatIsHandedInStays: the program's lists, the table, and what stands behind them.
func TestWhatIsHandedInStays(t *testing.T) {
	for seed := range uint64(60) {
		d := rolled(seed)
		made := d.any()
		if seed%2 == 0 {
			made = d.taken()
		}
		r := checker.Check(made)
		p, ok := erase.Program(made, r)
		var room []func() bool
		m, table := roomy(made, &room), roomyTable(r.Table, &room)
		was := image.Copy(m)
		q, also := erase.Program(m, api.Report{Reason: r.Reason, Table: table})
		if ok != also || !sameProgram(p, q) {
			t.Fatalf("with room behind the lists there is another Program: %t, %t", ok, also)
		}
		// Copies of both, as lists without elements may be nil or not.
		if !reflect.DeepEqual(image.Copy(m), image.Copy(was)) || !sameTable(table, r.Table) {
			t.Fatalf("what was handed in has changed")
		}
		if slices.ContainsFunc(room, func(stands func() bool) bool { return !stands() }) {
			t.Fatalf("what stands behind what was handed in has changed")
		}
	}
}

// spoil writes over all of a list, its spare room too.
func spoil[T any](l []T, with T) {
	for k := range l[:cap(l)] {
		l[:cap(l)][k] = with
	}
}

func copiedCode(code [][]api.FInst) [][]api.FInst {
	var l [][]api.FInst
	for _, row := range code {
		l = append(l, slices.Clone(row))
	}
	return l
}

// TestAnswersAreNew: one that is written over changes no other one, nor another list of its own; and it does not hang on what was handed in any more.
func TestAnswersAreNew(t *testing.T) {
	for seed := range uint64(30) {
		m := rolled(seed).taken()
		r := checker.Check(m)
		first, second := taken(t, "12.2", m), taken(t, "12.2", m)
		want := second
		want.Code, want.Gates = copiedCode(second.Code), slices.Clone(second.Gates)
		for gate := range want.Code {
			one := taken(t, "12.2", m)
			spoil(one.Code[gate], api.FInst{Op: 99})
			one.Code[gate] = want.Code[gate]
			if !sameProgram(one, want) {
				t.Fatalf("two rows of code share memory")
			}
			spoil(first.Code[gate], api.FInst{Op: 99})
		}
		spoil(first.Code, nil)
		spoil(first.Gates, api.FEntry{Entry: 99})
		if third, ok := erase.Program(m, r); !ok || !sameProgram(second, want) || !sameProgram(third, want) {
			t.Fatalf("two answers share memory, or what is told hangs on what was")
		}
		for k := range m.Comps {
			spoil(m.Comps[k].Code, api.Inst{Op: api.TRAP})
			spoil(m.Comps[k].Roots, api.Root{})
		}
		spoil(m.Gates, api.Gate{})
		spoil(m.Regions, api.Region{})
		for gate := range r.Table {
			spoil(r.Table[gate], api.State{})
		}
		if !sameProgram(second, want) {
			t.Fatalf("the Program hangs on what was handed in")
		}
	}
}

// TestArgumentsAlone: what is told does not hang on what else is asked, ahead or at the same time, nor on how many goroutines run at once.
func TestArgumentsAlone(t *testing.T) {
	type ask struct {
		m    api.Image
		r    api.Report
		want api.Program
		ok   bool
	}
	var l []ask
	d := rolled(6)
	for k := range 16 {
		m := d.any()
		if k%2 == 0 {
			m = d.taken()
		}
		r := checker.Check(m)
		p, ok := erase.Program(m, r)
		l = append(l, ask{m, r, p, ok})
	}
	asked := func(n int) {
		for k := range l {
			a := l[(k*(2*n+1)+n)%len(l)]
			if p, ok := erase.Program(a.m, a.r); ok != a.ok || !sameProgram(p, a.want) {
				t.Errorf("of one program unlike things are told")
			}
		}
	}
	was := runtime.GOMAXPROCS(0)
	defer runtime.GOMAXPROCS(was)
	for _, n := range []int{1, 2, 8} {
		runtime.GOMAXPROCS(n)
		var all sync.WaitGroup
		for n := range 4 {
			all.Go(func() { asked(n) })
		}
		all.Wait()
	}
}

// wild is any number, mostly at the edge of something.
func (d dice) wild() int {
	return of(d, -1<<63, -1<<31, -1, 0, 1, 2, 3, 6, 8, 15, 16, 17, 127, 128, 255, 256, 65536, 65537, 1<<31-1, 1<<31, 1<<63-1)
}

// spoilt is a program in which something may be wrong.
func (d dice) spoilt() api.Image {
	m := d.any()
	c := &m.Comps[d.IntN(3)]
	i := &c.Code[d.IntN(length)]
	g := &m.Gates[d.IntN(5)]
	r := &m.Regions[d.IntN(4)]
	switch d.IntN(9) {
	case 0:
		i.Op = api.Op(d.IntN(256))
	case 1:
		*of(d, &i.A, &i.B, &i.C, &i.Imm) = d.wild()
	case 2:
		c.Roots = append(c.Roots, api.Root{Reg: d.wild(), Cap: api.Cap{Base: d.number(), End: d.number(), Seal: d.wild()}})
	case 3:
		*of(d, &g.Comp, &g.Entry, &m.Depth) = d.wild()
	case 4:
		g.Args = []api.Type{{Cap: true, Base: d.number(), End: d.number(), Lo: d.number(), Hi: d.number(), Seal: d.wild()}}
	case 5:
		*of(d, &r.Base, &r.Len) = d.number()
	case 6:
		c.Code = c.Code[:d.IntN(2)]
	case 7:
		m.Comps = m.Comps[:d.IntN(3)+1]
	case 8:
		r.Slots = append(r.Slots, api.Slot{Cursor: d.number()})
	}
	return m
}

// table has about as many rows and states as there must be, in which anything may stand.
func (d dice) table(m api.Image) api.Table {
	var t api.Table
	for range len(m.Gates) + of(d, 0, 0, 0, 1) {
		row := make([]api.State, length+of(d, 0, 0, 0, 0, 0, -1, 1))
		for pc := range row {
			row[pc].Live = d.IntN(3) > 0
			for k := range row[pc].Regs {
				row[pc].Regs[k] = d.rtype()
			}
		}
		t = append(t, row)
	}
	return t
}

// rtype is anything that may be said of a register, rightly built or not.
func (d dice) rtype() api.RType {
	span := func() api.Span { return api.Span{Lo: d.number(), Hi: d.number()} }
	switch d.IntN(3) {
	case 0:
		return anyInteger()
	case 1:
		return api.RType{}
	}
	return api.RType{Kind: api.RKind(d.wild()), N: span(), Base: span(), End: span(), Point: span(),
		Must: api.Perms(d.IntN(256)), May: api.Perms(d.IntN(256)), Seal: d.wild()}
}

// TestAllArguments: whatever is handed in, there is an answer; and without a Program nothing else.
func TestAllArguments(t *testing.T) {
	wrong := 0
	for seed := range uint64(1200) {
		d := rolled(seed)
		m := d.spoilt()
		if image.Right(m) != api.OK {
			wrong++
			checkNone(t, "a program that is not right", m, api.Report{Table: d.table(m)})
		}
		for _, r := range []api.Report{checker.Check(m), {Table: checker.Check(m).Table}, {Table: d.table(m)}, {Reason: api.Reason(d.wild()), Gate: d.wild(), Pc: d.wild(), Steps: d.wild(), Table: d.table(m)}} {
			if p, ok := erase.Program(m, r); !ok && !isEmpty(p) {
				t.Fatalf("12.2: false, and yet there is something: %+v", p)
			}
		}
	}
	if wrong < 300 {
		t.Errorf("%d programs were not right: the dice are too narrow", wrong)
	}
}
