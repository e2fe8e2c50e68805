package reach_test

import (
	"reflect"
	"slices"
	"sync"
	"testing"

	"paddock/api"
	"paddock/image"
	"paddock/reach"
	"paddock/tagmem"
)

// grown is a list with three elements behind it, and room tells whether these stand there still.
func grown[T any](l []T, mark T, room *[]func() bool) []T {
	full := append(slices.Clone(l), mark, mark, mark)
	*room = append(*room, func() bool {
		return !slices.ContainsFunc(full[len(l):], func(x T) bool { return !reflect.DeepEqual(x, mark) })
	})
	return full[:len(l)]
}

// roomy is the same program with lists that have room behind them, in which something lies.
func roomy(m api.Image, room *[]func() bool) api.Image {
	r := image.Copy(m)
	r.Regions = grown(r.Regions, api.Region{Base: 77}, room)
	r.Comps = grown(r.Comps, api.Comp{}, room)
	r.Gates = grown(r.Gates, api.Gate{Comp: 77}, room)
	for k := range r.Regions {
		if len(r.Regions[k].Slots) > 0 {
			r.Regions[k].Slots = grown(r.Regions[k].Slots, api.Slot{Cursor: 77}, room)
		}
	}
	for k := range r.Comps {
		r.Comps[k].Roots = grown(r.Comps[k].Roots, api.Root{Reg: 77}, room)
		r.Comps[k].Code = grown(r.Comps[k].Code, api.Inst{Op: 77}, room)
	}
	for k := range r.Gates {
		r.Gates[k].Args = grown(r.Gates[k].Args, api.Type{Seal: 77}, room)
		r.Gates[k].Results = grown(r.Gates[k].Results, api.Type{Seal: 77}, room)
	}
	return r
}

func checkRoom(t *testing.T, what string, room []func() bool) {
	t.Helper()
	if slices.ContainsFunc(room, func(stands func() bool) bool { return !stands() }) {
		t.Fatalf("%s: what stands behind what was handed in has changed", what)
	}
}

// spoil writes over all of a list, its spare room too, and appends to it.
func spoil[T any](l []T, with T) {
	for k := range l[:cap(l)] {
		l[:cap(l)][k] = with
	}
	_ = append(l, with)
}

func mark() api.Cap { return of(77, 77, 77, 77, 77) }

// TestProgramsStay: the lists of a program that Grant is asked of, and what stands behind them.
func TestProgramsStay(t *testing.T) {
	for seed := range uint64(60) {
		made := rolled(seed).wild()
		var room []func() bool
		m := roomy(made, &room)
		for comp := -1; comp <= len(m.Comps); comp++ {
			want := reach.Grant(made, comp)
			checkCaps(t, "14.6: with room behind the lists", reach.Grant(m, comp), want)
		}
		// Copies of both, as lists without elements may be nil or not.
		if !reflect.DeepEqual(image.Copy(m), image.Copy(made)) {
			t.Fatalf("14.6: the program that was handed in has changed")
		}
		checkRoom(t, "14.6", room)
	}
}

// TestListsStay: those of capabilities and values, and what stands behind them; with no room, or some, they answer the same.
func TestListsStay(t *testing.T) {
	for seed := range uint64(300) {
		d := rolled(seed)
		m, a, b := memory(t, d.places()), d.list(d.IntN(8)), d.list(d.IntN(8))
		var values []api.Value
		for _, c := range a {
			values = append(values, api.Value{Tag: d.IntN(2) == 0, C: c})
		}
		var room []func() bool
		x, y, v := grown(a, mark(), &room), grown(b, mark(), &room), grown(values, holding(mark()), &room)
		touch := api.Touch{Addr: d.number(), Size: 8}
		checkCaps(t, "14.3: with room", reach.Dom(m, x...), reach.Dom(m, a...))
		checkCaps(t, "14.1: with room", reach.Caps(v...), reach.Caps(values...))
		if reach.Within(x, y) != reach.Within(a, b) || reach.Within(x, x) != true || reach.Covers(x, touch) != reach.Covers(a, touch) {
			t.Fatalf("14.4, 14.5: with room behind the lists the answer is another one")
		}
		checkCaps(t, "14.3: what was handed in", x, a)
		checkCaps(t, "14.4: what was handed in", y, b)
		if !slices.Equal(v, values) {
			t.Fatalf("14.1: what was handed in has changed")
		}
		checkRoom(t, "14.1 to 14.5", room)
	}
}

// TestMemoryStays: what Dom looks at is as it was.
func TestMemoryStays(t *testing.T) {
	for seed := range uint64(200) {
		d := rolled(seed)
		places := d.places()
		m := memory(t, places)
		m.Store(200, 8, d.number())
		bytes, tags := m.Bytes(), m.Tags()
		spoil(reach.Dom(m, of(0, top, 0, 255, 0), d.cap()), mark())
		if m.Bytes() != bytes || !slices.Equal(m.Tags(), tags) {
			t.Fatalf("14.3: memory has changed")
		}
		for at, c := range places {
			if v, e := m.LoadCap(at); e != api.OK || v != holding(c) {
				t.Fatalf("14.3: at %d there is %+v, want %v", at, v, c)
			}
		}
	}
}

// TestAnswersAreNew: one that is written over, and appended to, changes no other one, nor what was handed in.
func TestAnswersAreNew(t *testing.T) {
	for seed := range uint64(200) {
		d := rolled(seed)
		places, from, program := d.places(), d.list(1+d.IntN(6)), d.wild()
		m := memory(t, places)
		var values []api.Value
		for _, c := range from {
			values = append(values, holding(c))
		}
		was := slices.Clone(from)
		for _, answer := range []func() []api.Cap{
			func() []api.Cap { return reach.Dom(m, from...) },
			func() []api.Cap { return reach.Dom(nil, from...) },
			func() []api.Cap { return reach.Dom(nil, from[:0]...) },
			func() []api.Cap { return reach.Caps(values...) },
			func() []api.Cap { return reach.Grant(program, 0) },
		} {
			first, second := answer(), answer()
			want := slices.Clone(second)
			spoil(first, mark())
			checkCaps(t, "two answers", second, want)
			checkCaps(t, "what is asked again", answer(), want)
			checkCaps(t, "what was handed in", from, was)
		}
		kept, keptCaps := reach.Dom(nil, from...), reach.Caps(values...)
		want := slices.Clone(kept)
		spoil(from, mark())
		spoil(values, holding(mark()))
		checkCaps(t, "14.3: what was handed in is written over", kept, want)
		checkCaps(t, "14.1: what was handed in is written over", keptCaps, was)
	}
}

// TestGrantIsNew: it does not hang on the program any more.
func TestGrantIsNew(t *testing.T) {
	m := rolled(3).wild()
	kept := reach.Grant(m, 0)
	want := slices.Clone(kept)
	for k := range m.Comps {
		spoil(m.Comps[k].Roots, api.Root{Cap: mark()})
		spoil(m.Comps[k].Code, api.Inst{Op: 77})
	}
	for k := range m.Gates {
		spoil(m.Gates[k].Args, api.Type{Cap: true, Base: 77})
		spoil(m.Gates[k].Results, api.Type{Cap: true, Base: 77})
	}
	spoil(m.Regions[1].Slots, api.Slot{})
	checkCaps(t, "14.6: the program is written over", kept, want)
}

// TestArgumentsAlone: what is told does not hang on what else is asked, ahead or at the same time.
func TestArgumentsAlone(t *testing.T) {
	d := rolled(6)
	type ask struct {
		m      *tagmem.Tagged
		l      []api.Cap
		image  api.Image
		dom    []api.Cap
		grant  []api.Cap
		within bool
	}
	var asks []ask
	for range 12 {
		a := ask{m: memory(t, d.places()), l: d.list(5), image: d.wild()}
		a.dom, a.grant = reach.Dom(a.m, a.l...), reach.Grant(a.image, 1)
		a.within = reach.Within(a.dom, a.l)
		asks = append(asks, a)
	}
	var all sync.WaitGroup
	for n := range 4 {
		all.Go(func() {
			for k := range 10 * len(asks) {
				a := asks[(k*(2*n+1)+n)%len(asks)]
				if !slices.Equal(reach.Dom(a.m, a.l...), a.dom) || !slices.Equal(reach.Grant(a.image, 1), a.grant) || reach.Within(a.dom, a.l) != a.within {
					t.Errorf("of the same things unlike answers are told")
				}
			}
		})
	}
	all.Wait()
}
