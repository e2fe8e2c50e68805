package link_test

import (
	"fmt"
	"reflect"
	"slices"
	"sync"
	"testing"
	"unsafe"

	"paddock/api"
	"paddock/link"
)

// area is the memory of a list, spare room too.
type area struct {
	from, to uintptr
}

func areaOf[T any](l []T) area {
	from := uintptr(unsafe.Pointer(unsafe.SliceData(l)))
	var one T
	return area{from, from + uintptr(cap(l))*unsafe.Sizeof(one)}
}

func areaOfText(s string) area {
	return areaOf(unsafe.Slice(unsafe.StringData(s), len(s)))
}

// areas are those of all lists and texts of a module, but for texts that code has; one of no memory at all has none.
func areas(m api.Module) []area {
	l := []area{areaOf(m.Names), areaOf(m.Needs), areaOf(m.Image.Regions), areaOf(m.Image.Comps), areaOf(m.Image.Gates)}
	for _, name := range m.Names {
		l = append(l, areaOfText(name))
	}
	for _, r := range m.Image.Regions {
		l = append(l, areaOf(r.Slots), areaOfText(r.Data))
	}
	for _, c := range m.Image.Comps {
		l = append(l, areaOf(c.Roots), areaOf(c.Code))
	}
	for _, g := range m.Image.Gates {
		l = append(l, areaOf(g.Args), areaOf(g.Results))
	}
	return slices.DeleteFunc(l, func(a area) bool { return a.from == a.to })
}

// checkApart looks whether no list shares memory with another one, or with one of the others.
func checkApart(t *testing.T, what string, l, others []area) {
	t.Helper()
	for i, a := range l {
		for _, b := range slices.Concat(l[:i], others) {
			if a.from < b.to && b.from < a.to {
				t.Errorf("%s: two lists share memory", what)
			}
		}
	}
}

// grown is a list with three elements behind it, and room tells whether these stand there still.
func grown[T any](l []T, mark T, room *[]func() bool) []T {
	full := append(slices.Clone(l), mark, mark, mark)
	*room = append(*room, func() bool {
		return !slices.ContainsFunc(full[len(l):], func(x T) bool { return !reflect.DeepEqual(x, mark) })
	})
	return full[:len(l)]
}

// roomy is the same module with lists that have room behind them, in which something lies.
func roomy(m api.Module, room *[]func() bool) api.Module {
	m = loose(m)
	m.Names, m.Needs = grown(m.Names, "mark", room), grown(m.Needs, api.Need{Gate: 77}, room)
	p := &m.Image
	p.Regions, p.Comps, p.Gates = grown(p.Regions, api.Region{Base: 77}, room), grown(p.Comps, api.Comp{}, room), grown(p.Gates, api.Gate{Comp: 77}, room)
	for k := range p.Regions {
		p.Regions[k].Slots = grown(p.Regions[k].Slots, api.Slot{Cursor: 77}, room)
	}
	for k := range p.Comps {
		p.Comps[k].Roots = grown(p.Comps[k].Roots, api.Root{Reg: 77}, room)
		p.Comps[k].Code = grown(p.Comps[k].Code, api.Inst{Imm: 77}, room)
	}
	for k := range p.Gates {
		p.Gates[k].Args = grown(p.Gates[k].Args, api.Type{Seal: 77}, room)
		p.Gates[k].Results = grown(p.Gates[k].Results, api.Type{Seal: 77}, room)
	}
	return m
}

// families are some that can be linked, and some that can't.
func families(t *testing.T) [][]api.Module {
	t.Helper()
	l := [][]api.Module{
		{moduleA(t), moduleB(t)}, {moduleB(t), moduleA(t)}, ring(t, 4), {plain(t, "-"), plain(t, "-"), plain(t, "-")},
		{moduleA(t)}, {moduleA(t), moduleB(t), moduleB(t)}, {moduleA(t), moduleB(t), moduleC(t)}, {}, {wide(t), moduleA(t)}, {api.Module{}},
	}
	for seed := range uint64(40) {
		d := rolled(7000 + seed)
		x := d.laid()
		l = append(l, x)
		y := looseAll(x)
		d.turn(y)
		l = append(l, y)
	}
	return l
}

// TestHandedInStays: modules, with all their lists, and what stands behind these.
func TestHandedInStays(t *testing.T) {
	errors := map[api.Errno]int{}
	for n, l := range families(t) {
		var room []func() bool
		var x []api.Module
		for _, m := range l {
			x = append(x, roomy(m, &room))
		}
		x = grown(x, api.Module{Names: []string{"mark"}}, &room)
		was := looseAll(l)
		_, e, _ := link.Link(x...)
		errors[e]++
		for _, m := range x {
			link.Right(m)
		}
		for k, m := range x {
			if !same(m, was[k]) {
				t.Errorf("the family %d: the module %d has changed", n, k)
			}
		}
		if slices.ContainsFunc(room, func(stays func() bool) bool { return !stays() }) {
			t.Errorf("the family %d: what stands behind a list has changed", n)
		}
	}
	if errors[api.OK] < 40 || len(errors) < 5 {
		t.Errorf("%v: the families are too narrow", errors)
	}
}

// TestNewMemory: no list of an answer shares any with another one, nor with what was handed in, nor with another answer.
func TestNewMemory(t *testing.T) {
	for n, l := range families(t) {
		var room []func() bool
		var x []api.Module
		var others []area
		for _, m := range l {
			x = append(x, roomy(m, &room))
			others = append(others, areas(x[len(x)-1])...)
		}
		a, e, _ := link.Link(x...)
		b, _, _ := link.Link(x...)
		if e == api.OK {
			checkApart(t, fmt.Sprintf("17.3: the family %d", n), areas(a), slices.Concat(others, areas(b)))
		}
	}
}

// woven are modules whose lists share memory with one another; one is there twice.
func woven(t *testing.T) []api.Module {
	t.Helper()
	types := []api.Type{{}, {Cap: true, End: 16, Hi: 15, Perms: rw}, {}}
	code := []api.Inst{{Op: api.CALL, Imm: 1}, {Op: api.CALL, Imm: 0}, {Op: api.RET}}
	roots := []api.Root{{Reg: 8}, {Reg: 9}}
	names := []string{"", "", "x"}
	a, b := plain(t, "-"), plain(t, "-")
	a.Image.Comps = []api.Comp{{Roots: roots, Code: code}}
	a.Image.Gates = []api.Gate{{Args: types[:1], Results: types}, {Args: types[1:], Results: types[:2]}}
	a.Names = names[:2]
	b.Image.Comps = []api.Comp{{Roots: roots[:1], Code: code}}
	b.Image.Gates = append(slices.Clone(a.Image.Gates[:1]), a.Image.Gates[1])
	b.Names = names[1:]
	return []api.Module{a, b, a}
}

// TestWoven: lists that share memory share none in what is made.
func TestWoven(t *testing.T) {
	l := woven(t)
	m := linked(t, "woven", l...)
	checkSame(t, "17.3: woven", m, madeOf(l))
	checkApart(t, "17.3: woven", areas(m), slices.Concat(areas(l[0]), areas(l[1])))
	if !same(l[0], woven(t)[0]) || !same(l[1], woven(t)[1]) {
		t.Errorf("what was handed in has changed")
	}
}

func spoil[T any](l []T, with T) {
	for k := range l[:cap(l)] {
		l[:cap(l)][k] = with
	}
}

// wreck appends to all lists of a module and writes over them, their spare room too.
func wreck(m api.Module) {
	for _, r := range m.Image.Regions {
		spoil(append(r.Slots, api.Slot{}), api.Slot{Cursor: 1001})
		spoil(r.Slots, api.Slot{Cursor: 1001})
	}
	for _, c := range m.Image.Comps {
		spoil(append(c.Roots, api.Root{}), api.Root{Reg: 1001})
		spoil(c.Roots, api.Root{Reg: 1001})
		spoil(append(c.Code, api.Inst{}), api.Inst{Op: 201})
		spoil(c.Code, api.Inst{Op: 201})
	}
	for _, g := range m.Image.Gates {
		for _, l := range [][]api.Type{g.Args, g.Results} {
			spoil(append(l, api.Type{}), api.Type{Seal: 1001})
			spoil(l, api.Type{Seal: 1001})
		}
	}
	spoil(append(m.Image.Regions, api.Region{}), api.Region{Base: 1001})
	spoil(m.Image.Regions, api.Region{Base: 1001})
	spoil(append(m.Image.Comps, api.Comp{}), api.Comp{})
	spoil(m.Image.Comps, api.Comp{})
	spoil(append(m.Image.Gates, api.Gate{}), api.Gate{Comp: 1001})
	spoil(m.Image.Gates, api.Gate{Comp: 1001})
	spoil(append(m.Names, ""), "wrecked")
	spoil(m.Names, "wrecked")
	spoil(append(m.Needs, api.Need{}), api.Need{Gate: 1001})
}

// TestWrecked: what came out and was written over, or appended to, changes no other answer, nor what was handed in; and what was handed in and was written over changes no answer.
func TestWrecked(t *testing.T) {
	for n, l := range families(t) {
		want, e, k := link.Link(looseAll(l)...)
		if e != api.OK {
			continue
		}
		x := looseAll(l)
		first, _, _ := link.Link(x...)
		second, _, _ := link.Link(x...)
		wreck(first)
		checkSame(t, fmt.Sprintf("17.3: the family %d, another answer wrecked", n), second, want)
		third, f, i := link.Link(x...)
		if f != e || i != k {
			t.Fatalf("the family %d: asked again: %d, %d", n, f, i)
		}
		checkSame(t, fmt.Sprintf("17.3: the family %d, asked again", n), third, want)
		for _, m := range x {
			wreck(m)
		}
		checkSame(t, fmt.Sprintf("17.3: the family %d, its modules wrecked", n), third, want)
	}
}

// TestPartsOfAnAnswer: no list of a module that came out changes with another one of it that is appended to.
func TestPartsOfAnAnswer(t *testing.T) {
	for n, l := range families(t) {
		m, e, _ := link.Link(l...)
		if e != api.OK {
			continue
		}
		want := loose(m)
		for _, g := range m.Image.Gates {
			spoil(append(g.Args, api.Type{})[len(g.Args):], api.Type{Seal: 1001})
			spoil(append(g.Results, api.Type{})[len(g.Results):], api.Type{Seal: 1001})
		}
		for _, c := range m.Image.Comps {
			spoil(append(c.Roots, api.Root{})[len(c.Roots):], api.Root{Reg: 1001})
			spoil(append(c.Code, api.Inst{})[len(c.Code):], api.Inst{Op: 201})
		}
		for _, r := range m.Image.Regions {
			spoil(append(r.Slots, api.Slot{})[len(r.Slots):], api.Slot{Cursor: 1001})
		}
		checkSame(t, fmt.Sprintf("17.3: the family %d, appended to", n), m, want)
	}
}

// TestAtOnce: it answers the same, whoever else asks at the same time, and whatever was asked before.
func TestAtOnce(t *testing.T) {
	type told struct {
		m api.Module
		e api.Errno
		k int
	}
	l := families(t)
	var wants []told
	for _, x := range l {
		m, e, k := link.Link(x...)
		wants = append(wants, told{m, e, k})
	}
	var all sync.WaitGroup
	for n := range 8 {
		all.Go(func() {
			for i := range l {
				at := (i*(2*n+1) + n) % len(l)
				m, e, k := link.Link(l[at]...)
				if e != wants[at].e || k != wants[at].k || !same(m, wants[at].m) {
					t.Errorf("the family %d, asked again: %d, %d, want %d, %d, or another module", at, e, k, wants[at].e, wants[at].k)
				}
			}
		})
	}
	all.Wait()
}
