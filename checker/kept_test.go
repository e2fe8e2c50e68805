package checker_test

import (
	"reflect"
	"runtime"
	"slices"
	"sync"
	"testing"
	"time"

	"paddock/api"
	"paddock/checker"
	"paddock/image"
)

// roomy is the same program with lists that have room behind them, in which something lies.
func roomy(m api.Image) (api.Image, func() bool) {
	r := image.Copy(m)
	room := []func() bool{}
	r.Regions = grown(r.Regions, api.Region{Base: 77}, &room)
	r.Comps = grown(r.Comps, api.Comp{}, &room)
	r.Gates = grown(r.Gates, api.Gate{Comp: 77}, &room)
	for k := range r.Regions {
		r.Regions[k].Slots = grown(r.Regions[k].Slots, api.Slot{Cursor: 77}, &room)
	}
	for k := range r.Comps {
		r.Comps[k].Roots = grown(r.Comps[k].Roots, api.Root{Reg: 77}, &room)
		r.Comps[k].Code = grown(r.Comps[k].Code, api.Inst{Op: 77}, &room)
	}
	for k := range r.Gates {
		r.Gates[k].Args = grown(r.Gates[k].Args, api.Type{Seal: 77}, &room)
		r.Gates[k].Results = grown(r.Gates[k].Results, api.Type{Seal: 77}, &room)
	}
	return r, func() bool { return allStand(room) }
}

func allStand(room []func() bool) bool {
	return !slices.ContainsFunc(room, func(stands func() bool) bool { return !stands() })
}

// grown is a list with three elements behind it, and room tells whether these stand there still.
func grown[T any](l []T, mark T, room *[]func() bool) []T {
	full := append(slices.Clone(l), mark, mark, mark)
	*room = append(*room, func() bool {
		for _, x := range full[len(l):] {
			if !reflect.DeepEqual(x, mark) {
				return false
			}
		}
		return true
	})
	return full[:len(l)]
}

// TestWhatIsHandedInStays: the program's lists, the table, and what stands behind them.
func TestWhatIsHandedInStays(t *testing.T) {
	for seed := range uint64(60) {
		d := rolled(seed)
		made := d.any()
		m, stands := roomy(made)
		was := image.Copy(m)
		r := checker.Check(m)
		if !sameReport(r, checker.Check(made)) {
			t.Fatalf("11.1: with room behind the lists the report is another one")
		}
		room := []func() bool{}
		table := copied(r.Table)
		for gate := range table {
			table[gate] = grown(table[gate], api.State{Live: true, Regs: [api.Regs]api.RType{{Kind: 9}}}, &room)
		}
		table = grown(table, []api.State{{Live: true}}, &room)
		if !checker.Settled(m, table) {
			t.Fatalf("11.3: with room behind the lists the table is not settled")
		}
		checker.Static(m)
		checker.Most(m)
		// Copies of both, as lists without elements may be nil or not.
		if !reflect.DeepEqual(image.Copy(m), image.Copy(was)) || !stands() {
			t.Fatalf("a program that was handed in has changed: %+v", m)
		}
		if !sameTable(table, r.Table) || !allStand(room) {
			t.Fatalf("a table that was handed in has changed")
		}
	}
}

// TestAnswersAreNew: a table that is written over, with its spare room, changes no other one, nor another row; and it does not hang on the program any more.
func TestAnswersAreNew(t *testing.T) {
	for seed := range uint64(60) {
		d := rolled(seed)
		m := d.any()
		first, second := checker.Check(m), checker.Check(m)
		want := copied(second.Table)
		spoilt := api.State{Live: true, Regs: [api.Regs]api.RType{{Kind: 9}}}
		for gate := range first.Table {
			others := copied(first.Table)
			row := first.Table[gate][:cap(first.Table[gate])]
			for pc := range row {
				row[pc] = spoilt
			}
			for k := range others {
				if k != gate && !slices.Equal(first.Table[k], others[k]) {
					t.Fatalf("two rows of one table share memory")
				}
			}
		}
		for k := range first.Table[:cap(first.Table)] {
			first.Table[:cap(first.Table)][k] = nil
		}
		third := checker.Check(m)
		if !sameTable(second.Table, want) || !sameTable(third.Table, want) {
			t.Fatalf("two answers share memory, or what is told hangs on what was")
		}
		for k := range m.Comps {
			m.Comps[k].Code[0] = api.Inst{Op: api.TRAP}
			m.Comps[k].Roots = nil
		}
		if !sameTable(second.Table, want) {
			t.Fatalf("the table hangs on the program that was handed in")
		}
	}
}

// TestArgumentsAlone: what is told does not hang on what else is asked, ahead or at the same time, nor on how many goroutines run at once.
func TestArgumentsAlone(t *testing.T) {
	type ask struct {
		m      api.Image
		want   api.Report
		static bool
		most   int
	}
	var l []ask
	d := rolled(6)
	for range 40 {
		m := d.any()
		l = append(l, ask{m, checker.Check(m), checker.Static(m), checker.Most(m)})
	}
	asked := func(n int) {
		for k := range l {
			a := l[(k*(2*n+1)+n)%len(l)]
			if got := checker.Check(a.m); !sameReport(got, a.want) {
				t.Errorf("Check told %+v, then %+v", a.want, got)
			}
			if !checker.Settled(a.m, a.want.Table) || checker.Static(a.m) != a.static || checker.Most(a.m) != a.most {
				t.Errorf("of one program unlike things are told")
			}
		}
	}
	was := runtime.GOMAXPROCS(0)
	defer runtime.GOMAXPROCS(was)
	for _, n := range []int{1, 2, 3, 8} {
		runtime.GOMAXPROCS(n)
		var all sync.WaitGroup
		for n := range 4 {
			all.Go(func() { asked(n) })
		}
		all.Wait()
	}
}

// TestNobodyIsLeft: all goroutines have ended when a call answers.
func TestNobodyIsLeft(t *testing.T) {
	m := rolled(9).any()
	ahead := runtime.NumGoroutine()
	for range 200 {
		checker.Settled(m, checker.Check(m).Table)
	}
	// One that has just said that it is done may still be counted for a moment.
	for range 100 {
		if runtime.NumGoroutine() <= ahead {
			return
		}
		time.Sleep(time.Millisecond)
	}
	t.Errorf("%d goroutines ahead, %d behind", ahead, runtime.NumGoroutine())
}

// TestAllArguments: whatever is handed in, there is an answer.
func TestAllArguments(t *testing.T) {
	numbers := []int{-1 << 63, -1 << 31, -1, 0, 1, 2, 3, 6, 8, 15, 16, 17, 127, 128, 255, 256, 65536, 65537, 1<<31 - 1, 1 << 31, 1<<63 - 1}
	wrong := 0
	for seed := range uint64(1500) {
		d := rolled(seed)
		m := d.any()
		for range d.IntN(3) {
			c := &m.Comps[d.IntN(3)]
			i := &c.Code[d.IntN(length)]
			switch d.IntN(8) {
			case 0:
				i.Op = api.Op(d.IntN(256))
			case 1:
				*of(d, &i.A, &i.B, &i.C, &i.Imm) = of(d, numbers...)
			case 2:
				c.Roots = append(c.Roots, api.Root{Reg: of(d, numbers...), Cap: api.Cap{Base: d.number(), End: d.number(), Seal: of(d, numbers...)}})
			case 3:
				g := &m.Gates[d.IntN(5)]
				*of(d, &g.Comp, &g.Entry) = of(d, numbers...)
			case 4:
				m.Gates[d.IntN(5)].Args = []api.Type{{Cap: true, Base: d.number(), End: d.number(), Lo: d.number(), Hi: d.number(), Seal: of(d, numbers...)}}
			case 5:
				r := &m.Regions[d.IntN(4)]
				*of(d, &r.Base, &r.Len) = d.number()
			case 6:
				c.Code = c.Code[:d.IntN(2)]
			case 7:
				m.Comps = m.Comps[:d.IntN(3)+1]
			}
			if len(m.Comps) < 3 || len(c.Code) < length {
				break
			}
		}
		isRight := image.Right(m) == api.OK
		if !isRight {
			wrong++
		}
		r := checker.Check(m)
		if isRight != (r.Table != nil) || isRight != (checker.Most(m) > 0) || checker.Static(m) && !isRight || checker.Settled(m, r.Table) != isRight {
			t.Fatalf("the program %d, right: %t: %+v", seed, isRight, r)
		}
		checker.Settled(m, d.table(m, numbers))
	}
	if wrong < 300 {
		t.Errorf("%d programs were not right: the dice are too narrow", wrong)
	}
}

// table has about as many rows and states as there must be, in which anything may stand.
func (d dice) table(m api.Image, numbers []int) api.Table {
	var t api.Table
	for range len(m.Gates) + of(d, 0, 0, 0, 1) {
		row := make([]api.State, length+of(d, 0, 0, 0, 0, 0, -1, 1))
		for pc := range row {
			row[pc].Live = d.IntN(3) > 0
			for k := range row[pc].Regs {
				row[pc].Regs[k] = d.rtype(numbers)
			}
		}
		t = append(t, row)
	}
	return t
}

// rtype is anything that may be said of a register, rightly built or not.
func (d dice) rtype(numbers []int) api.RType {
	span := func() api.Span { return api.Span{Lo: d.number(), Hi: d.number()} }
	switch d.IntN(4) {
	case 0:
		return anyInteger()
	case 1:
		return pointer(d.number(), d.number())
	case 2:
		return api.RType{}
	}
	return api.RType{Kind: api.RKind(of(d, numbers...)), N: span(), Base: span(), End: span(), Point: span(),
		Must: api.Perms(d.IntN(256)), May: api.Perms(d.IntN(256)), Seal: of(d, numbers...)}
}
