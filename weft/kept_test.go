package weft_test

import (
	"reflect"
	"runtime"
	"slices"
	"sync"
	"testing"
	"time"

	"paddock/api"
	"paddock/image"
	"paddock/weft"
)

// much is how many steps the nets of these tests do.
const much = 300

// nets are some of all kinds: right and wrong, and those of the examples.
func nets(t testing.TB) []api.Net {
	t.Helper()
	l := []api.Net{{}, pipe(t), yard(t), ring(t), woven(t)}
	for seed := range uint64(25) {
		l = append(l, rolled(50000+seed).net(), rolled(60000+seed).any())
	}
	for _, c := range errors(t) {
		n, _ := turned(t, c.turns[0])
		l = append(l, n)
	}
	return l
}

// woven is a net of which all lists share memory: the channels are pieces of one list, and so are the arguments.
func woven(t testing.TB) api.Net {
	t.Helper()
	m := parse(t, "depth 1;comp;in r3;add r3 r3 r1;add r3 r3 r2;out r3;jmp 0;gate a 0 0 int int ->")
	numbers := []uint64{1, 2, 3, 4, 5, 6, 7, 8}
	n := api.Net{Programs: []api.Image{m, m, m}, Queues: [][]uint64{numbers[:3], numbers[2:5], numbers[1:1], numbers}}
	for k := range 3 {
		n.Procs = append(n.Procs, api.Proc{Program: k, Args: numbers[k : k+2], In: k, Out: k + 1})
	}
	return n
}

// TestWoven: what is put behind the numbers of one channel is seen in no other one.
func TestWoven(t *testing.T) {
	n := woven(t)
	was := copied(n)
	want := flowOf([]api.Outcome{starved(0), starved(0), starved(0)},
		[][]uint64{{1, 2, 3}, {3, 4, 5, 4, 5, 6}, {8, 9, 10, 9, 10, 11}, {1, 2, 3, 4, 5, 6, 7, 8, 15, 16, 17, 16, 17, 18}}, 3, 6, 6, 0)
	w := begun(t, n)
	finish(t, w, 3)
	checkFlow(t, "20.3: woven", w.Flow(), want)
	checkFlow(t, "20.5: woven", ran(t, n, much), want)
	if !sameNet(n, was) {
		t.Errorf("20: woven: what was handed in has changed: %+v", n)
	}
}

// answers is what the calls tell of a net: by Run, and by scripts at its beginning, in between and at the end.
type answers struct {
	right, begun, run api.Errno
	flows             []api.Flow
	done              []int
	idle              []bool
}

func ask(n api.Net) answers {
	var a answers
	a.right = weft.Right(n)
	w, e := weft.New(n)
	a.begun = e
	// Of a nil net nothing is told.
	for range 5 {
		a.flows, a.idle = append(a.flows, w.Flow()), append(a.idle, w.Idle())
		for k := range n.Procs {
			a.done = append(a.done, w.Do(len(n.Procs)-1-k, 6))
		}
	}
	for range n.Procs {
		for k := range n.Procs {
			a.done = append(a.done, w.Do(k, much))
		}
	}
	f, e := weft.Run(n, much)
	a.flows, a.run = append(a.flows, w.Flow(), f), e
	return a
}

func (a answers) same(b answers) bool {
	return a.right == b.right && a.begun == b.begun && a.run == b.run && slices.Equal(a.done, b.done) && slices.Equal(a.idle, b.idle) && slices.EqualFunc(a.flows, b.flows, same)
}

// copied is the same net in memory of its own, in which lists without elements are nil.
func copied(n api.Net) api.Net {
	var c api.Net
	for _, m := range n.Programs {
		c.Programs = append(c.Programs, image.Copy(m))
	}
	for _, p := range n.Procs {
		p.Args = append([]uint64(nil), p.Args...)
		c.Procs = append(c.Procs, p)
	}
	for _, q := range n.Queues {
		c.Queues = append(c.Queues, append([]uint64(nil), q...))
	}
	return c
}

func sameNet(a, b api.Net) bool { return reflect.DeepEqual(copied(a), copied(b)) }

// copiedFlow is the same in memory of its own.
func copiedFlow(f api.Flow) api.Flow {
	c := api.Flow{Outcomes: slices.Clone(f.Outcomes), Taken: slices.Clone(f.Taken)}
	for _, q := range f.Queues {
		c.Queues = append(c.Queues, slices.Clone(q))
	}
	return c
}

// grown is a list with three elements behind it, and room tells whether these stand there still.
func grown[T any](l []T, mark T, room *[]func() bool) []T {
	full := append(slices.Clone(l), mark, mark, mark)
	*room = append(*room, func() bool {
		return !slices.ContainsFunc(full[len(l):], func(x T) bool { return !reflect.DeepEqual(x, mark) })
	})
	return full[:len(l)]
}

// roomy is the same program with lists that have room behind them, in which something lies.
func roomy(m api.Image, room *[]func() bool) api.Image {
	m = image.Copy(m)
	m.Regions, m.Comps, m.Gates = grown(m.Regions, api.Region{Base: 77}, room), grown(m.Comps, api.Comp{}, room), grown(m.Gates, api.Gate{Comp: 77}, room)
	for k := range m.Regions {
		m.Regions[k].Slots = grown(m.Regions[k].Slots, api.Slot{Cursor: 77}, room)
	}
	for k := range m.Comps {
		m.Comps[k].Roots = grown(m.Comps[k].Roots, api.Root{Reg: 77}, room)
		m.Comps[k].Code = grown(m.Comps[k].Code, api.Inst{Op: api.JMP}, room)
	}
	for k := range m.Gates {
		m.Gates[k].Args = grown(m.Gates[k].Args, api.Type{Seal: 77}, room)
		m.Gates[k].Results = grown(m.Gates[k].Results, api.Type{Seal: 77}, room)
	}
	return m
}

// roomyNet is the same net, likewise.
func roomyNet(n api.Net, room *[]func() bool) api.Net {
	n = copied(n)
	for k := range n.Programs {
		n.Programs[k] = roomy(n.Programs[k], room)
	}
	for k := range n.Procs {
		n.Procs[k].Args = grown(n.Procs[k].Args, 77, room)
	}
	for k := range n.Queues {
		n.Queues[k] = grown(n.Queues[k], 77, room)
	}
	n.Programs, n.Procs, n.Queues = grown(n.Programs, api.Image{Depth: 77}, room), grown(n.Procs, api.Proc{Gate: 77}, room), grown(n.Queues, []uint64{77}, room)
	return n
}

// TestHandedInStays: nets, with all their lists, and what stands behind these; and that is not of the net.
func TestHandedInStays(t *testing.T) {
	for k, n := range nets(t) {
		was := copied(n)
		want := ask(n)
		if !sameNet(n, was) {
			t.Errorf("20: the net %d has changed", k)
		}
		var room []func() bool
		x := roomyNet(n, &room)
		if got := ask(x); !got.same(want) {
			t.Errorf("20: the net %d, with room behind its lists: other answers", k)
		}
		if !sameNet(x, was) {
			t.Errorf("20: the net %d has changed, with room behind its lists", k)
		}
		if slices.ContainsFunc(room, func(stays func() bool) bool { return !stays() }) {
			t.Errorf("20: the net %d: what stands behind a list has changed", k)
		}
	}
}

// spoil writes over all of a list, its spare room too.
func spoil[T any](l []T, with T) {
	l = l[:cap(l)]
	for k := range l {
		l[k] = with
	}
}

// spoilProgram writes over all lists of a program; those in lists come first.
func spoilProgram(m api.Image) {
	for _, r := range m.Regions {
		spoil(r.Slots, api.Slot{Cursor: 99})
	}
	for _, c := range m.Comps {
		spoil(c.Roots, api.Root{Reg: 99})
		spoil(c.Code, api.Inst{Op: 99})
	}
	for _, g := range m.Gates {
		spoil(g.Args, api.Type{Seal: 99})
		spoil(g.Results, api.Type{Seal: 99})
	}
	spoil(m.Regions, api.Region{Base: 99})
	spoil(m.Comps, api.Comp{})
	spoil(m.Gates, api.Gate{Comp: 99})
}

func spoilNet(n api.Net) {
	for _, m := range n.Programs {
		spoilProgram(m)
	}
	for _, p := range n.Procs {
		spoil(p.Args, 99)
	}
	for _, q := range n.Queues {
		spoil(q, 99)
	}
	spoil(n.Programs, api.Image{})
	spoil(n.Procs, api.Proc{Program: 99})
	spoil(n.Queues, nil)
}

func spoilFlow(f api.Flow) {
	for _, q := range f.Queues {
		spoil(q, 99)
	}
	spoil(f.Outcomes, api.Outcome{Pc: 99})
	spoil(f.Queues, nil)
	spoil(f.Taken, 99)
}

// TestWrittenOver: what was handed in is its caller's again behind New, and behind Run, and no answer shares memory with it.
func TestWrittenOver(t *testing.T) {
	for k, given := range nets(t) {
		if weft.Right(given) != api.OK {
			continue
		}
		n := copied(given)
		w, run := begun(t, n), ran(t, n, much)
		first := w.Flow()
		wantFirst, wantRun := copiedFlow(first), copiedFlow(run)
		spoilNet(n)
		if !same(first, wantFirst) || !same(run, wantRun) {
			t.Errorf("20: the net %d: a Flow shares memory with what was handed in", k)
		}
		if !same(w.Flow(), wantFirst) {
			t.Errorf("20.2: the net %d, written over behind New: it stands at another beginning", k)
		}
		x := begun(t, given)
		for range 4 {
			for p := range given.Procs {
				if got, want := w.Do(p, much), x.Do(p, much); got != want {
					t.Errorf("20.2: the net %d, written over behind New: Do(%d, %d) is %d, want %d", k, p, much, got, want)
				}
			}
		}
		checkFlow(t, "20.2: a net that was written over behind New", w.Flow(), x.Flow())
	}
}

// TestAnswersAreNew: a Flow that is written over changes no other one, nor the net, nor what was handed in; and a Flow stays as it is, whatever the net does then.
func TestAnswersAreNew(t *testing.T) {
	for k, given := range nets(t) {
		if weft.Right(given) != api.OK {
			continue
		}
		n := copied(given)
		w := begun(t, n)
		var kept, wants []api.Flow
		for range 12 {
			spoilFlow(w.Flow())
			f := w.Flow()
			kept, wants = append(kept, f), append(wants, copiedFlow(f))
			for p := range n.Procs {
				w.Do(p, 5)
			}
		}
		if !slices.EqualFunc(kept, wants, same) {
			t.Errorf("20.4: the net %d: a Flow has changed", k)
		}
		x := begun(t, n)
		for range 12 {
			for p := range n.Procs {
				x.Do(p, 5)
			}
		}
		checkFlow(t, "20.4: a net whose Flows were written over", w.Flow(), x.Flow())
		f := ran(t, n, much)
		want := copiedFlow(f)
		spoilFlow(ran(t, n, much))
		if !same(f, want) || !same(ran(t, n, much), want) || !sameNet(n, given) {
			t.Errorf("20.5: the net %d: a Flow of Run shares memory", k)
		}
	}
}

// TestListsAreApart: no two lists of one Flow share memory, spare room too.
func TestListsAreApart(t *testing.T) {
	for k, n := range nets(t) {
		for _, f := range ask(n).flows {
			for q, numbers := range f.Queues {
				spoil(numbers, uint64(q))
			}
			for q, numbers := range f.Queues {
				if slices.ContainsFunc(numbers[:cap(numbers)], func(x uint64) bool { return x != uint64(q) }) {
					t.Errorf("20.4: the net %d: two lists share memory", k)
				}
			}
		}
	}
}

// TestAskedAgain: the same again, and of other nets between, answers the same; and what was changed is looked at anew.
func TestAskedAgain(t *testing.T) {
	l := nets(t)
	var first []answers
	for _, n := range l {
		first = append(first, ask(n))
	}
	for k, n := range slices.Backward(l) {
		if !ask(n).same(first[k]) {
			t.Errorf("20: the net %d, asked again: other answers", k)
		}
	}
	n := pipe(t)
	checkFlow(t, "20.5: ahead of a change", ran(t, n, 3), flowOf([]api.Outcome{spent(3), spent(3)}, [][]uint64{{1, 2}, {11}, {21}}, 1, 1, 0))
	n.Programs[0].Comps[0].Code[1].Imm, n.Queues[0][0] = 7, 5
	checkFlow(t, "20.5: behind a change", ran(t, n, 3), flowOf([]api.Outcome{spent(3), spent(3)}, [][]uint64{{5, 2}, {12}, {19}}, 1, 1, 0))
	n.Programs[0].Comps[0].Code[1] = api.Inst{Op: api.LB, A: 1, B: 2}
	checkRight(t, "behind another change", n, api.ErrCheck)
}

// TestNetsAreApart: two nets at the same time, step by step, do what each does alone.
func TestNetsAreApart(t *testing.T) {
	a, b := pipe(t), ring(t)
	x, y := begun(t, a), begun(t, b)
	v, z := begun(t, a), begun(t, b)
	for k := range 100 {
		x.Do(k%2, 2)
		y.Do(k%api.MaxProcs, 3)
	}
	for k := range 100 {
		v.Do(k%2, 2)
	}
	for k := range 100 {
		z.Do(k%api.MaxProcs, 3)
	}
	checkFlow(t, "20.3: one of two nets", x.Flow(), v.Flow())
	checkFlow(t, "20.3: the other one of two nets", y.Flow(), z.Flow())
}

// TestAtOnce: it answers the same, whoever else asks at the same time, and however many goroutines run at once.
func TestAtOnce(t *testing.T) {
	l := nets(t)
	var wants []answers
	for _, n := range l {
		wants = append(wants, ask(n))
	}
	was := runtime.GOMAXPROCS(0)
	defer runtime.GOMAXPROCS(was)
	for _, count := range []int{1, 2, 8} {
		runtime.GOMAXPROCS(count)
		var all sync.WaitGroup
		for n := range 4 {
			all.Go(func() {
				for k := range l {
					at := (k*(2*n+1) + n) % len(l)
					if !ask(l[at]).same(wants[at]) {
						t.Errorf("20: the net %d, at once: other answers", at)
					}
				}
			})
		}
		all.Wait()
	}
}

// TestAgainAndAgain: Run of a net in which all speak with one another answers the same, however its goroutines run.
func TestAgainAndAgain(t *testing.T) {
	for _, n := range []api.Net{ring(t), pipe(t), rolled(7).net(), rolled(8).net(), rolled(9).net()} {
		want := settled(t, n, much)
		for range 60 {
			if f := ran(t, n, much); !same(f, want) {
				t.Fatalf("20.5: again: %+v, want %+v", f, want)
			}
		}
	}
}

// TestNobodyIsLeft: all goroutines of a Run have ended when it answers, those of processes that wait for ever, too.
func TestNobodyIsLeft(t *testing.T) {
	waiting := ring(t)
	waiting.Queues[3] = nil
	before := runtime.NumGoroutine()
	for range 40 {
		ran(t, waiting, much)
		ran(t, ring(t), much)
		ran(t, pipe(t), 2)
	}
	// One that has told that it is over may take a moment to go.
	for k := 0; runtime.NumGoroutine() > before && k < 100; k++ {
		time.Sleep(10 * time.Millisecond)
	}
	if now := runtime.NumGoroutine(); now > before {
		t.Errorf("20.5: %d goroutines are left over", now-before)
	}
}
