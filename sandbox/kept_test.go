package sandbox_test

import (
	"fmt"
	"runtime"
	"slices"
	"sync"
	"testing"

	"paddock/api"
	"paddock/sandbox"
)

// echo puts out its two arguments and all of its inputs, and keeps each in memory.
const echo = "depth 1;region 0 16 bytes #0102;comp;root r8 0 16 0 rw 0;out r1;out r2;sw r1 r8 0;sw r2 r8 8;next: in r3;out r3;sw r3 r8 3;lb r4 r8 3;jmp next;gate g 0 0 int int ->"

func echoed(args, inputs []uint64) api.Result {
	r := api.Result{Outcome: api.Outcome{End: api.Starved, Pc: 4}, Out: slices.Concat(args, inputs), Touches: []api.Touch{store(0, 8), store(8, 8)}}
	for range inputs {
		r.Touches = append(r.Touches, store(3, 8), load(3, 1))
	}
	return r
}

// TestHandedInStays: arguments, inputs, and what stands behind them.
func TestHandedInStays(t *testing.T) {
	p := loaded(t, echo)
	for n := range 20 {
		for _, w := range ways(p) {
			args, inputs := []uint64{7, 8}, slices.Repeat([]uint64{5, top}, n)
			var room []func() bool
			b := begun{args: grown(args, 77, &room), inputs: grown(inputs, 99, &room), fuel: 1000}
			if r, e := w.asked(b); e != api.OK || !sameResult(r, echoed(args, inputs)) {
				t.Fatalf("16.2: %s: %d, %+v", w.name, e, r)
			}
			if !slices.Equal(b.args, args) || !slices.Equal(b.inputs, inputs) || !room[0]() || !room[1]() {
				t.Fatalf("%s: what was handed in has changed: %v, %v", w.name, b.args, b.inputs)
			}
		}
	}
}

// TestListsThatCameOut: they may be written over and appended to; neither another answer nor what was handed in finds anything of it.
func TestListsThatCameOut(t *testing.T) {
	p := loaded(t, echo)
	args, inputs := []uint64{7, 8}, []uint64{1, 2, 3, 4, 5}
	b := begun{args: args, inputs: inputs, fuel: 1000}
	want := echoed(args, inputs)
	var kept []api.Result
	for range 3 {
		for _, w := range ways(p) {
			r, _ := w.asked(b)
			kept = append(kept, r)
		}
		for _, w := range ways(p) {
			r, _ := w.asked(b)
			r.Out, r.Touches = append(r.Out, 1000), append(r.Touches, store(1000, 1000))
			spoil(r.Out, 1001)
			spoil(r.Touches, load(1001, 1001))
		}
	}
	for _, r := range kept {
		if !sameResult(r, want) {
			t.Errorf("16.2: an answer has changed: %+v, want %+v", r, want)
		}
	}
	if !slices.Equal(args, []uint64{7, 8}) || !slices.Equal(inputs, []uint64{1, 2, 3, 4, 5}) {
		t.Errorf("16.2: what was handed in has changed: %v, %v", args, inputs)
	}
	// One after the other, with what stands behind each.
	for k := range kept {
		spoil(kept[k].Out, 1002)
		spoil(kept[k].Touches, load(1002, 1002))
		for _, r := range kept[k+1:] {
			if !sameResult(r, want) {
				t.Fatalf("16.2: two answers share memory")
			}
		}
	}
}

// TestReportsThatCameOut: one that is written over changes no run, and no other report.
func TestReportsThatCameOut(t *testing.T) {
	wrecked := api.State{Live: true}
	wrecked.Regs[1] = api.RType{Kind: api.ACap, Seal: -1}
	for _, x := range examples() {
		s := encoded(t, parse(t, x.text))
		p, _, _, first := sandbox.Load(s)
		q, _, _, second := sandbox.Load(s)
		_, _, _, want := sandbox.Load(s)
		for gate := range first.Table {
			spoil(first.Table[gate], wrecked)
			if !slices.Equal(second.Table[gate], want.Table[gate]) {
				t.Fatalf("16.1: Example %s: two reports share memory", x.name)
			}
		}
		spoil(first.Table, nil)
		checkReport(t, "Example "+x.name, second, want)
		_, _, _, third := sandbox.Load(s)
		checkReport(t, "Example "+x.name, third, want)
		checkRuns(t, "Example "+x.name+", its report written over", p, x.begun, x.want)
		checkRuns(t, "Example "+x.name+", another one's report written over", q, x.begun, x.want)
	}
}

// TestRowsOfAReport: no two share memory.
func TestRowsOfAReport(t *testing.T) {
	s := encoded(t, parse(t, rows))
	_, _, _, want := sandbox.Load(s)
	for gate := range want.Table {
		_, _, _, r := sandbox.Load(s)
		spoil(r.Table[gate], api.State{Live: true})
		for other := range want.Table {
			if other != gate && !slices.Equal(r.Table[other], want.Table[other]) {
				t.Errorf("16.1: the rows %d and %d share memory", gate, other)
			}
		}
	}
}

// TestReportOfARefusal: it is new, too.
func TestReportOfARefusal(t *testing.T) {
	s := encoded(t, parse(t, replaced(t, lent, "lb r1 r1 3", "sb r0 r1 3")))
	_, _, _, want := sandbox.Load(s)
	_, _, _, r := sandbox.Load(s)
	for gate := range r.Table {
		spoil(r.Table[gate], api.State{Live: true})
	}
	spoil(r.Table, nil)
	_, _, _, again := sandbox.Load(s)
	checkReport(t, "a refusal", again, want)
}

// asked is a run that was asked once, with its answer.
type asked struct {
	p    *sandbox.Program
	b    begun
	want api.Result
	e    api.Errno
}

// askedOnce are runs of the dice's programs, of the examples, and some that are wrong.
func askedOnce(t *testing.T) []asked {
	t.Helper()
	d := rolled(16)
	var l []asked
	ask := func(p *sandbox.Program, b begun) {
		r, e := p.Slow(b.gate, b.args, b.inputs, b.fuel)
		l = append(l, asked{p, b, r, e})
	}
	for _, x := range examples() {
		ask(loaded(t, x.text), x.begun)
	}
	for range 6 {
		m := d.taken()
		p := loadedOf(t, m)
		for gate, g := range m.Gates {
			ask(p, begun{gate, d.numbers(len(g.Args)), d.numbers(6), 150})
		}
	}
	ask(loaded(t, five), begun{gate: 1})
	ask(loaded(t, five), begun{args: []uint64{1}})
	ask(nil, begun{})
	return l
}

// again asks for all of them once more, in an order of its own, on either machine.
func again(t *testing.T, l []asked, n int) {
	for k := range l {
		a := l[(k*(2*n+1)+n)%len(l)]
		w := ways(a.p)[(k+n)%2]
		if r, e := w.asked(a.b); e != a.e || !sameResult(r, a.want) {
			t.Errorf("16.2: %s of %+v, asked again: %d, %+v, want %d, %+v", w.name, a.b, e, r, a.e, a.want)
		}
	}
}

// TestByTurns: of several programs and on both machines, runs know nothing of one another.
func TestByTurns(t *testing.T) {
	l := askedOnce(t)
	for n := range 8 {
		again(t, l, n)
	}
}

// TestTwoPrograms: by turns, each on each machine, of the same bytes and of others.
func TestTwoPrograms(t *testing.T) {
	p, q, o := loaded(t, echo), loaded(t, echo), loaded(t, replaced(t, echo, "out r3", "out r1"))
	for n := range 12 {
		args, inputs := []uint64{uint64(n), top - uint64(n)}, make([]uint64, n)
		for k := range inputs {
			inputs[k] = uint64(k*n + 1)
		}
		b := begun{args: args, inputs: inputs, fuel: 1000}
		checkRuns(t, fmt.Sprintf("the first, %d", n), p, b, echoed(args, inputs))
		other := echoed(args, slices.Repeat(args[:1], n))
		checkRuns(t, fmt.Sprintf("the other, %d", n), o, b, other)
		checkRuns(t, fmt.Sprintf("the second, %d", n), q, b, echoed(args, inputs))
	}
}

// TestAtOnce: whoever else runs at the same time, and however many goroutines do.
func TestAtOnce(t *testing.T) {
	l := askedOnce(t)
	was := runtime.GOMAXPROCS(0)
	defer runtime.GOMAXPROCS(was)
	for _, n := range []int{1, 2, 8} {
		runtime.GOMAXPROCS(n)
		var all sync.WaitGroup
		for n := range 6 {
			all.Go(func() { again(t, l, n) })
		}
		all.Wait()
	}
}

// TestLoadAtOnce: it answers the same, whatever else is loaded.
func TestLoadAtOnce(t *testing.T) {
	var texts []string
	for _, x := range examples() {
		texts = append(texts, encoded(t, parse(t, x.text)))
	}
	texts = append(texts, encoded(t, parse(t, replaced(t, lent, "candp r1 r8 r", "mov r1 r8"))), "PADDK1", "")
	var all sync.WaitGroup
	for n := range 8 {
		all.Go(func() {
			for k := range texts {
				s := texts[(k*5+n)%len(texts)]
				_, e, at, r := sandbox.Load(s)
				_, e2, at2, r2 := sandbox.Load(s)
				if e != e2 || at != at2 || r.Reason != r2.Reason || r.Steps != r2.Steps || !sameTable(r.Table, r2.Table) {
					t.Errorf("16.1: of the same bytes unlike things are told")
				}
			}
		})
	}
	all.Wait()
}
