package trim_test

import (
	"reflect"
	"runtime"
	"slices"
	"sync"
	"testing"

	"paddock/api"
	"paddock/image"
	"paddock/trim"
)

// answers is what the three calls answer of a program.
type answers struct {
	fold, pack, trim api.Image
	folded, trimmed  bool
}

func ask(m api.Image) answers {
	var a answers
	a.fold, a.folded = trim.Fold(m)
	a.pack = trim.Pack(m)
	a.trim, a.trimmed = trim.Trim(m)
	return a
}

func (a answers) images() []api.Image { return []api.Image{a.fold, a.pack, a.trim} }

func (a answers) same(b answers) bool {
	return a.folded == b.folded && a.trimmed == b.trimmed && slices.EqualFunc(a.images(), b.images(), same)
}

// copied is the same in memory of its own.
func (a answers) copied() answers {
	a.fold, a.pack, a.trim = image.Copy(a.fold), image.Copy(a.pack), image.Copy(a.trim)
	return a
}

// programs are some of all kinds: right and wrong, taken and not.
func programs(t *testing.T) []api.Image {
	t.Helper()
	l := slices.Clone(many()[:60])
	for seed := range uint64(60) {
		l = append(l, rolled(6000+seed).any())
	}
	for _, m := range turned(t) {
		l = append(l, m)
	}
	for _, m := range wrong(t) {
		l = append(l, m)
	}
	return l
}

// grown is a list with three elements behind it, and room tells whether these stand there still.
func grown[T any](l []T, mark T, room *[]func() bool) []T {
	full := append(slices.Clone(l), mark, mark, mark)
	*room = append(*room, func() bool {
		return !slices.ContainsFunc(full[len(l):], func(x T) bool { return !reflect.DeepEqual(x, mark) })
	})
	return full[:len(l)]
}

// roomy is the same program with lists that have room behind them, in which something lies.
func roomy(m api.Image, room *[]func() bool) api.Image {
	m = image.Copy(m)
	m.Regions, m.Comps, m.Gates = grown(m.Regions, api.Region{Base: 77}, room), grown(m.Comps, api.Comp{}, room), grown(m.Gates, api.Gate{Comp: 77}, room)
	for k := range m.Regions {
		m.Regions[k].Slots = grown(m.Regions[k].Slots, api.Slot{Cursor: 77}, room)
	}
	for k := range m.Comps {
		m.Comps[k].Roots = grown(m.Comps[k].Roots, api.Root{Reg: 77}, room)
		m.Comps[k].Code = grown(m.Comps[k].Code, api.Inst{Op: api.JMP}, room)
	}
	for k := range m.Gates {
		m.Gates[k].Args = grown(m.Gates[k].Args, api.Type{Seal: 77}, room)
		m.Gates[k].Results = grown(m.Gates[k].Results, api.Type{Seal: 77}, room)
	}
	return m
}

// TestHandedInStays: programs, with all their lists, and what stands behind these; and that is not of the program.
func TestHandedInStays(t *testing.T) {
	for n, m := range programs(t) {
		want := ask(m)
		var room []func() bool
		x := roomy(m, &room)
		was := image.Copy(x)
		if got := ask(x); !got.same(want) {
			t.Errorf("the program %d, with room behind its lists: other answers", n)
		}
		if !reflect.DeepEqual(image.Copy(x), was) {
			t.Errorf("the program %d has changed", n)
		}
		if slices.ContainsFunc(room, func(stays func() bool) bool { return !stays() }) {
			t.Errorf("the program %d: what stands behind a list has changed", n)
		}
	}
}

// spoil writes over all of a list, its spare room too.
func spoil[T any](l []T, with T) {
	l = l[:cap(l)]
	for k := range l {
		l[k] = with
	}
}

// spoilAll writes over all lists of some programs; those in lists come first.
func spoilAll(l ...api.Image) {
	for _, m := range l {
		for _, r := range m.Regions {
			spoil(r.Slots, api.Slot{Cursor: 99})
		}
		for _, c := range m.Comps {
			spoil(c.Roots, api.Root{Reg: 99})
			spoil(c.Code, api.Inst{Op: 99})
		}
		for _, g := range m.Gates {
			spoil(g.Args, api.Type{Seal: 99})
			spoil(g.Results, api.Type{Seal: 99})
		}
		spoil(m.Regions, api.Region{Base: 99})
		spoil(m.Comps, api.Comp{})
		spoil(m.Gates, api.Gate{Comp: 99})
	}
}

// TestAnswersAreNew: an answer that is written over changes no other one, nor what was handed in; and what was handed in, written over, changes no answer.
func TestAnswersAreNew(t *testing.T) {
	for n, given := range programs(t) {
		m := image.Copy(given)
		before, between := ask(m), ask(m)
		want := between.copied()
		spoilAll(before.images()...)
		if !same(m, given) {
			t.Fatalf("the program %d shares memory with an answer", n)
		}
		if after := ask(m); !between.same(want) || !after.same(want) {
			t.Fatalf("the program %d: two answers share memory", n)
		}
		spoilAll(m)
		if !between.same(want) {
			t.Fatalf("the program %d: an answer shares memory with what was handed in", n)
		}
	}
}

// apart tells whether no two of these lists share memory, spare room too.
func apart[T comparable](l [][]T, mark func(int) T) bool {
	for k, x := range l {
		spoil(x, mark(k))
	}
	for k, x := range l {
		if slices.ContainsFunc(x[:cap(x)], func(v T) bool { return v != mark(k) }) {
			return false
		}
	}
	return true
}

// TestListsAreApart: within one answer no two lists share memory, though those that were handed in may.
func TestListsAreApart(t *testing.T) {
	for n, m := range append(programs(t), woven()) {
		for which, got := range ask(m).images() {
			var slots [][]api.Slot
			var roots [][]api.Root
			var code [][]api.Inst
			var types [][]api.Type
			for _, r := range got.Regions {
				slots = append(slots, r.Slots)
			}
			for _, c := range got.Comps {
				roots, code = append(roots, c.Roots), append(code, c.Code)
			}
			for _, g := range got.Gates {
				types = append(types, g.Args, g.Results)
			}
			if !apart(slots, func(k int) api.Slot { return api.Slot{Cursor: uint64(k)} }) || !apart(roots, func(k int) api.Root { return api.Root{Reg: k} }) ||
				!apart(code, func(k int) api.Inst { return api.Inst{Imm: k} }) || !apart(types, func(k int) api.Type { return api.Type{Seal: k} }) {
				t.Fatalf("the program %d, the answer %d: two lists share memory", n, which)
			}
		}
	}
}

// woven is a program that is taken, whose compartments share code and roots, and whose gates share types.
func woven() api.Image {
	code := []api.Inst{{Op: api.JMP, Imm: 1}, {Op: api.RET}, {Op: api.ADDI, A: 3, Imm: 1}, {Op: api.GTAG, A: 8, C: 1}, {Op: api.JMP}}
	roots := []api.Root{{Reg: 8, Cap: api.Cap{End: 16, Perms: api.Load}}, {Reg: 9, Cap: api.Cap{End: 16, Perms: api.Load}}}
	types := []api.Type{{}, {}, {}}
	m := api.Image{Depth: 1, Comps: []api.Comp{{Roots: roots, Code: code}, {Roots: roots[:1], Code: code[:2]}, {Roots: roots, Code: code}}}
	m.Gates = []api.Gate{{Comp: 0, Entry: 2, Args: types, Results: types[:1]}, {Comp: 1, Args: types[1:], Results: types[2:]}, {Comp: 2, Entry: 3}}
	return m
}

// TestWoven: each compartment is folded and packed by itself.
func TestWoven(t *testing.T) {
	m := woven()
	was := image.Copy(m)
	z := trimmed(t, m)
	want := image.Copy(m)
	trap, ret := api.Inst{Op: api.TRAP}, api.Inst{Op: api.RET}
	// Of the JMP at the front nothing is left; of the guard that holds neither.
	want.Comps[0].Code = []api.Inst{ret, {Op: api.LI, A: 3, Imm: 1}, {Op: api.JMP}}
	want.Comps[1].Code = []api.Inst{ret}
	want.Comps[2].Code = []api.Inst{ret, trap, {Op: api.JMP}}
	want.Gates[0].Entry, want.Gates[2].Entry = 1, 2
	checkSame(t, "19.3: woven", z, want)
	checkSame(t, "19: woven, handed in", m, was)
}

// TestAskedAgain: the same again, and of other programs between, answers the same; and what was changed is looked at anew.
func TestAskedAgain(t *testing.T) {
	l := programs(t)
	var first []answers
	for _, m := range l {
		first = append(first, ask(m))
	}
	for n, m := range slices.Backward(l) {
		if !ask(m).same(first[n]) {
			t.Errorf("the program %d, asked again: other answers", n)
		}
	}
	m := parse(t, alone("li r2 5;mov r3 r2;jmp 3;ret"))
	checkSame(t, "ahead of a change", trimmed(t, m), parse(t, alone("li r2 5;li r3 5;ret")))
	m.Comps[0].Code[0] = api.Inst{Op: api.IN, A: 2}
	checkSame(t, "behind a change", trimmed(t, m), parse(t, alone("in r2;mov r3 r2;ret")))
	m.Comps[0].Code[3] = api.Inst{Op: api.LI, A: 1}
	checkRefused(t, "behind another change", m)
}

// TestAtOnce: it answers the same, whoever else asks at the same time, and however many goroutines run at once.
func TestAtOnce(t *testing.T) {
	l := programs(t)
	var wants []answers
	for _, m := range l {
		wants = append(wants, ask(m))
	}
	was := runtime.GOMAXPROCS(0)
	defer runtime.GOMAXPROCS(was)
	for _, n := range []int{1, 2, 8} {
		runtime.GOMAXPROCS(n)
		var all sync.WaitGroup
		for n := range 4 {
			all.Go(func() {
				for k := range l {
					at := (k*(2*n+1) + n) % len(l)
					if !ask(l[at]).same(wants[at]) {
						t.Errorf("the program %d, at once: other answers", at)
					}
				}
			})
		}
		all.Wait()
	}
}

// wild is any number, mostly at the edge of something.
func (d dice) wild() int {
	return of(d, -1<<63, -1<<31, -1, 0, 1, 2, 3, 6, 8, 15, 16, 17, 127, 128, 255, 256, 65536, 65537, 1<<31-1, 1<<31, 1<<63-1)
}

// spoilt is a program in which something may be wrong.
func (d dice) spoilt() api.Image {
	m := d.any()
	c := &m.Comps[d.IntN(4)]
	i := &c.Code[d.IntN(len(c.Code))]
	g := &m.Gates[d.IntN(len(m.Gates))]
	r := &m.Regions[d.IntN(4)]
	switch d.IntN(9) {
	case 0:
		i.Op = api.Op(d.IntN(256))
	case 1:
		*of(d, &i.A, &i.B, &i.C, &i.Imm) = d.wild()
	case 2:
		c.Roots = append(c.Roots, api.Root{Reg: d.wild(), Cap: api.Cap{Base: d.number(), End: d.number(), Seal: d.wild()}})
	case 3:
		*of(d, &g.Comp, &g.Entry, &m.Depth) = d.wild()
	case 4:
		g.Args = []api.Type{{Cap: true, Base: d.number(), End: d.number(), Lo: d.number(), Hi: d.number(), Seal: d.wild()}}
	case 5:
		*of(d, &r.Base, &r.Len) = d.number()
	case 6:
		c.Code = c.Code[:d.IntN(2)]
	case 7:
		m.Comps = m.Comps[:d.IntN(3)+1]
	case 8:
		r.Slots = append(r.Slots, api.Slot{Cursor: d.number()})
	}
	return m
}

// TestAllArguments: whatever is handed in, there is an answer; of what is not right Fold and Trim make nothing, and Pack the same.
func TestAllArguments(t *testing.T) {
	wrong := 0
	for seed := range uint64(1500) {
		m := rolled(7000 + seed).spoilt()
		if isRight(m) {
			against(t, m, map[rule]int{})
			continue
		}
		wrong++
		checkRefused(t, "a program that is not right", m)
		if !same(trim.Pack(m), m) {
			t.Fatalf("19.2: of a program that is not right Pack makes another one:\n%+v", m)
		}
	}
	if wrong < 300 {
		t.Errorf("%d programs were not right: the dice are too narrow", wrong)
	}
}
