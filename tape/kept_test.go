package tape_test

import (
	"reflect"
	"slices"
	"sync"
	"testing"

	"paddock/api"
	"paddock/image"
	"paddock/tape"
)

// spoil writes over all of a list, its spare room too.
func spoil[T any](l []T, with T) {
	l = l[:cap(l)]
	for k := range l {
		l[k] = with
	}
}

// spoilProgram writes over all lists of a program; those in lists come first.
func spoilProgram(m api.Image) {
	for _, r := range m.Regions {
		spoil(r.Slots, api.Slot{Cursor: 99})
	}
	for _, c := range m.Comps {
		spoil(c.Roots, api.Root{Reg: 99})
		spoil(c.Code, api.Inst{Op: 99})
	}
	for _, g := range m.Gates {
		spoil(g.Args, api.Type{Seal: 99})
		spoil(g.Results, api.Type{Seal: 99})
	}
	spoil(m.Regions, api.Region{Base: 99})
	spoil(m.Comps, api.Comp{})
	spoil(m.Gates, api.Gate{Comp: 99})
}

// grown is a list with three elements behind it, and room tells whether these stand there still.
func grown[T any](l []T, mark T, room *[]func() bool) []T {
	full := append(slices.Clone(l), mark, mark, mark)
	*room = append(*room, func() bool {
		return !slices.ContainsFunc(full[len(l):], func(x T) bool { return !reflect.DeepEqual(x, mark) })
	})
	return full[:len(l)]
}

// roomy is the same program with lists that have room behind them, in which something lies.
func roomy(m api.Image, room *[]func() bool) api.Image {
	m = image.Copy(m)
	m.Regions, m.Comps, m.Gates = grown(m.Regions, api.Region{Base: 77}, room), grown(m.Comps, api.Comp{}, room), grown(m.Gates, api.Gate{Comp: 77}, room)
	for k := range m.Regions {
		m.Regions[k].Slots = grown(m.Regions[k].Slots, api.Slot{Cursor: 77}, room)
	}
	for k := range m.Comps {
		m.Comps[k].Roots = grown(m.Comps[k].Roots, api.Root{Reg: 77}, room)
		m.Comps[k].Code = grown(m.Comps[k].Code, api.Inst{Op: api.JMP}, room)
	}
	for k := range m.Gates {
		m.Gates[k].Args = grown(m.Gates[k].Args, api.Type{Seal: 77}, room)
		m.Gates[k].Results = grown(m.Gates[k].Results, api.Type{Seal: 77}, room)
	}
	return m
}

// copied is the same in memory of its own, in which lists without elements are nil.
func copied(r run) run {
	r.m = image.Copy(r.m)
	r.args, r.inputs = append([]uint64(nil), r.args...), append([]uint64(nil), r.inputs...)
	return r
}

func sameRun(a, b run) bool { return reflect.DeepEqual(copied(a), copied(b)) }

// runs are some of all kinds: some that may be, and some that may not.
func runs(t testing.TB) []run {
	t.Helper()
	l := []run{
		{m: alone(t, storing), fuel: 10},
		{m: parse(t, calling), fuel: 99},
		{m: alone(t, counting), inputs: []uint64{3, 1, 4, 1, 5, 9, 2, 6}, fuel: 99},
		{m: alone(t, counting), inputs: times(60, 7), fuel: 30},
		twoGates(t),
	}
	for _, c := range endings() {
		l = append(l, run{m: parse(t, c.text), args: c.args, inputs: c.inputs, fuel: 20})
	}
	for _, kind := range wrongs() {
		r := twoGates(t)
		kind[0].turn(&r)
		l = append(l, r)
	}
	ground := alone(t, "ret")
	for seed := range uint64(15) {
		l = append(l, rolled(5000+seed).run(ground))
	}
	return l
}

// answers is what the calls tell of a run.
type answers struct {
	err     api.Errno
	len     int
	outcome api.Outcome
	snaps   []api.FSnap
	bytes   []byte
	errs    []api.Errno
	stores  [][]int
	finds   []int
}

// lookAt asks a tape about all that these tests hold against one another.
func lookAt(x *tape.Tape) answers {
	a := answers{len: x.Len(), outcome: x.Outcome()}
	for step := -1; step <= a.len+1; step += 1 + a.len/12 {
		s, e := x.At(step)
		b, f := x.Byte(step, uint64(step%64))
		c, g := x.Byte(step, 8)
		a.snaps, a.bytes, a.errs = append(a.snaps, s), append(a.bytes, b, c), append(a.errs, e, f, g)
	}
	for addr := range uint64(98) {
		a.stores = append(a.stores, x.Stores(addr))
	}
	for pc := range 8 {
		for from := -1; from <= a.len+1; from += 3 {
			a.finds = append(a.finds, x.Find(0, pc, from, false), x.Find(1, pc, from, true))
		}
	}
	return a
}

func ask(r run) answers {
	x, e := r.asked()
	a := lookAt(x)
	a.err = e
	return a
}

func (a answers) same(b answers) bool {
	return a.err == b.err && a.len == b.len && a.outcome == b.outcome && slices.Equal(a.snaps, b.snaps) && slices.Equal(a.bytes, b.bytes) && slices.Equal(a.errs, b.errs) &&
		slices.EqualFunc(a.stores, b.stores, func(x, y []int) bool { return slices.Equal(x, y) }) && slices.Equal(a.finds, b.finds)
}

// TestHandedInStays: programs with all their lists, arguments, inputs, and what stands behind these.
func TestHandedInStays(t *testing.T) {
	for k, r := range runs(t) {
		was := copied(r)
		want := ask(r)
		if !sameRun(r, was) {
			t.Errorf("21.1: the run %d has changed", k)
		}
		var room []func() bool
		y := run{roomy(r.m, &room), r.gate, grown(r.args, 77, &room), grown(r.inputs, 77, &room), r.fuel}
		if got := ask(y); !got.same(want) {
			t.Errorf("21.1: the run %d, with room behind its lists: other answers", k)
		}
		if !sameRun(y, was) {
			t.Errorf("21.1: the run %d has changed, with room behind its lists", k)
		}
		if slices.ContainsFunc(room, func(stays func() bool) bool { return !stays() }) {
			t.Errorf("21.1: the run %d: what stands behind a list has changed", k)
		}
	}
}

// TestWrittenOver: what was handed in is its caller's again behind Record.
func TestWrittenOver(t *testing.T) {
	for k, given := range runs(t) {
		want := ask(given)
		r := copied(given)
		x, e := r.asked()
		spoilProgram(r.m)
		spoil(r.args, 99)
		spoil(r.inputs, 99)
		got := lookAt(x)
		got.err = e
		if !got.same(want) {
			t.Errorf("21.1: the run %d, written over behind Record: other answers", k)
		}
	}
}

// TestAskedAgain: the same tape, and one that is made again, of other runs between, answers the same.
func TestAskedAgain(t *testing.T) {
	l := runs(t)
	var first []answers
	var tapes []*tape.Tape
	for _, r := range l {
		x, e := r.asked()
		a := lookAt(x)
		a.err = e
		tapes, first = append(tapes, x), append(first, a)
	}
	for k, r := range slices.Backward(l) {
		if !ask(r).same(first[k]) {
			t.Errorf("21: the run %d, recorded again: other answers", k)
		}
		a := lookAt(tapes[k])
		a.err = first[k].err
		if !a.same(first[k]) {
			t.Errorf("21: the tape %d, asked again: other answers", k)
		}
	}
	r := run{m: alone(t, storing), fuel: 9}
	checkOutcome(t, "ahead of a change", recorded(t, r), halted(5, 3))
	r.m.Comps[0].Code[0].Imm = 6
	checkOutcome(t, "behind a change", recorded(t, r), halted(6, 3))
	r.m.Comps[0].Code[3] = api.Inst{Op: api.MOV}
	checkNone(t, "behind another change", r, api.ErrCheck)
}

// TestByTurns: a tape asked by turns with one of another program, and with ones of the same program with other inputs and other fuel.
func TestByTurns(t *testing.T) {
	var all []run
	for _, inputs := range [][]uint64{{3, 1, 4, 1, 5, 9, 2, 6}, {2, 7, 1, 8, 2, 8, 1, 8}, nil} {
		all = append(all, run{m: alone(t, counting), inputs: inputs, fuel: 30}, run{m: alone(t, counting), inputs: inputs, fuel: 21})
	}
	all = append(all, run{m: parse(t, calling), fuel: 99}, run{m: alone(t, storing), fuel: 99})
	var tapes []*tape.Tape
	var models []*model
	for _, r := range all {
		tapes, models = append(tapes, recorded(t, r)), append(models, modelOf(t, r))
	}
	for step := range 32 {
		for k, m := range models {
			place := step * 7 % 32
			if place > m.len() {
				checkNoStep(t, "by turns", tapes[k], place)
				continue
			}
			checkAt(t, "by turns", tapes[k], place, m.snaps[place])
			checkByte(t, "by turns", tapes[k], place, 15, m.bytes[place][15])
			checkStores(t, "by turns", tapes[k], 15, m.stores(15)...)
			seek{0, 2, place, false, m.find(0, 2, place, false)}.check(t, "by turns", tapes[k])
		}
	}
}

// TestAtOnce: it answers the same, whoever else asks of the same tape, or records, at the same time.
func TestAtOnce(t *testing.T) {
	l := runs(t)
	var tapes []*tape.Tape
	var wants []answers
	for _, r := range l {
		x, _ := r.asked()
		tapes, wants = append(tapes, x), append(wants, ask(r))
	}
	var all sync.WaitGroup
	for n := range 4 {
		all.Go(func() {
			for k := range l {
				at := (k*(2*n+1) + n) % len(l)
				a := lookAt(tapes[at])
				a.err = wants[at].err
				if !a.same(wants[at]) || !ask(l[at]).same(wants[at]) {
					t.Errorf("21: the run %d, at once: other answers", at)
				}
			}
		})
	}
	all.Wait()
}
