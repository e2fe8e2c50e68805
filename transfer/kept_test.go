package transfer_test

import (
	"reflect"
	"slices"
	"sync"
	"testing"

	"paddock/api"
	"paddock/image"
	"paddock/transfer"
)

// roomy is the same program with lists that have room behind them, in which something lies.
func roomy(m api.Image) (api.Image, func() bool) {
	r := image.Copy(m)
	room := []func() bool{}
	r.Regions = grown(r.Regions, api.Region{Base: 77}, &room)
	r.Comps = grown(r.Comps, api.Comp{}, &room)
	r.Gates = grown(r.Gates, api.Gate{Comp: 77}, &room)
	for k := range r.Regions {
		r.Regions[k].Slots = grown(r.Regions[k].Slots, api.Slot{Cursor: 77}, &room)
	}
	for k := range r.Comps {
		r.Comps[k].Roots = grown(r.Comps[k].Roots, api.Root{Reg: 77}, &room)
		r.Comps[k].Code = grown(r.Comps[k].Code, api.Inst{Op: 77}, &room)
	}
	for k := range r.Gates {
		r.Gates[k].Args = grown(r.Gates[k].Args, api.Type{Seal: 77}, &room)
		r.Gates[k].Results = grown(r.Gates[k].Results, api.Type{Seal: 77}, &room)
	}
	return r, func() bool {
		return !slices.ContainsFunc(room, func(stands func() bool) bool { return !stands() })
	}
}

// grown is a list with three elements behind it, and room tells whether these stand there still.
func grown[T any](l []T, mark T, room *[]func() bool) []T {
	full := append(slices.Clone(l), mark, mark, mark)
	*room = append(*room, func() bool {
		for _, x := range full[len(l):] {
			if !reflect.DeepEqual(x, mark) {
				return false
			}
		}
		return true
	})
	return full[:len(l)]
}

// TestWhatIsHandedInStays: the program's lists, and what stands behind them.
func TestWhatIsHandedInStays(t *testing.T) {
	d := rolled(4)
	for range 60 {
		for _, op := range ops() {
			made, st := d.asked(op)
			m, stands := roomy(made)
			was := image.Copy(m)
			got := transfer.Do(m, inner, at, st)
			checkStep(t, "room behind the lists", got, transfer.Do(made, inner, at, st))
			if e := transfer.Entry(m, inner); e != transfer.Entry(made, inner) {
				t.Errorf("Entry with room behind the lists: %+v", e)
			}
			for k := range got.Next {
				got.Next[k] = api.Succ{Pc: -9}
			}
			// Copies of both, as lists without elements may be nil or not.
			if !reflect.DeepEqual(image.Copy(m), image.Copy(was)) || !stands() {
				t.Fatalf("Do has changed what was handed in: %+v", m)
			}
		}
	}
}

// TestAnswersAreNew: one that is written over, with its spare room, changes no other one.
func TestAnswersAreNew(t *testing.T) {
	d := rolled(5)
	for range 60 {
		for _, op := range ops() {
			m, st := d.asked(op)
			first, second := transfer.Do(m, inner, at, st), transfer.Do(m, inner, at, st)
			want := slices.Clone(second.Next)
			room := first.Next[:cap(first.Next)]
			for k := range room {
				room[k] = api.Succ{Pc: -9}
			}
			third := transfer.Do(m, inner, at, st)
			if !slices.Equal(second.Next, want) || !slices.Equal(third.Next, want) {
				t.Fatalf("two answers share memory, or what is told hangs on what was: %+v, %+v, want %+v", second.Next, third.Next, want)
			}
		}
	}
}

// TestArgumentsAlone: what is told does not hang on what else is asked, ahead or at the same time.
func TestArgumentsAlone(t *testing.T) {
	type ask struct {
		m    api.Image
		st   api.State
		want api.Step
	}
	var l []ask
	d := rolled(6)
	for range 10 {
		for _, op := range ops() {
			m, st := d.asked(op)
			l = append(l, ask{m, st, transfer.Do(m, inner, at, st)})
		}
	}
	var all sync.WaitGroup
	for n := range 4 {
		all.Go(func() {
			for k := range l {
				a := l[(k*(2*n+1)+n)%len(l)]
				if got := transfer.Do(a.m, inner, at, a.st); !sameStep(got, a.want) {
					t.Errorf("%+v: %+v, then %+v", a.m.Comps[1].Code[at], a.want, got)
				}
			}
		})
	}
	all.Wait()
}

// TestAllArguments: whatever is handed in, there is an answer; what is not there is not sought.
func TestAllArguments(t *testing.T) {
	d := rolled(7)
	numbers := []int{-1 << 63, -1 << 31, -1, 0, 1, 2, 3, 15, 16, 17, 127, 128, 255, 256, 65536, 65537, 1<<31 - 1, 1 << 31, 1<<63 - 1}
	for range 60000 {
		i := api.Inst{Op: api.Op(d.IntN(256)), A: of(d, numbers...), B: of(d, numbers...), C: of(d, numbers...), Imm: of(d, numbers...)}
		if d.IntN(2) == 0 {
			i = d.inst(of(d, ops()...), size, 3)
			*of(d, &i.A, &i.B, &i.C, &i.Imm) = of(d, numbers...)
		}
		m := yard(i)
		if d.rarely() {
			m.Gates[d.IntN(3)].Comp = of(d, numbers...)
			m.Comps[1].Roots = append(m.Comps[1].Roots, api.Root{Reg: of(d, numbers...)})
		}
		gate, pc := inner, at
		if d.rarely() {
			gate, pc = of(d, numbers...), of(d, numbers...)
		}
		transfer.Entry(m, gate)
		got := transfer.Do(m, gate, pc, d.state())
		if got.Reason < api.Fine || got.Reason > api.RFall || got.Verdict < api.Plain || got.Verdict > api.Goes || len(got.Next) > 2 {
			t.Fatalf("%+v: %+v", i, got)
		}
	}
}
