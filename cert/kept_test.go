package cert_test

import (
	"fmt"
	"reflect"
	"runtime"
	"slices"
	"strings"
	"sync"
	"testing"

	"paddock/api"
	"paddock/cert"
	"paddock/checker"
	"paddock/image"
)

// answers is what the three calls answer of a program and some bytes.
type answers struct {
	made               string
	e, verified, asked api.Errno
	gate, pc           int
	table              api.Table
}

func ask(m api.Image, s string) answers {
	var a answers
	a.made, a.e = cert.Make(m)
	a.verified, a.gate, a.pc = cert.Verify(m, s)
	a.table, a.asked = cert.Table(m, s)
	return a
}

func (a answers) same(b answers) bool {
	return a.made == b.made && a.e == b.e && a.verified == b.verified && a.asked == b.asked && a.gate == b.gate && a.pc == b.pc && sameTable(a.table, b.table)
}

// copied is the same in memory of its own.
func (a answers) copied() answers {
	a.table = copied(a.table)
	return a
}

// asked is a program and some bytes.
type asked struct {
	m api.Image
	s string
}

// questions are some of all kinds: programs right and wrong, taken and not, by bytes that show them and that do not.
func questions(t *testing.T) []asked {
	t.Helper()
	var l []asked
	for k, m := range many()[:40] {
		d := rolled(11000 + uint64(k))
		for _, s := range d.certificates(m, 1) {
			l = append(l, asked{m, s}, asked{m, d.bent(s)})
		}
		m := d.counting()
		if x, ok := patient(m); ok {
			l = append(l, asked{m, saying(x)}, asked{d.any(), saying(x)})
		}
	}
	for _, m := range wrong(t) {
		l = append(l, asked{m, certificate(row(), row())})
	}
	return l
}

// grown is a list with three elements behind it, and room tells whether these stand there still.
func grown[T any](l []T, mark T, room *[]func() bool) []T {
	full := append(slices.Clone(l), mark, mark, mark)
	*room = append(*room, func() bool {
		return !slices.ContainsFunc(full[len(l):], func(x T) bool { return !reflect.DeepEqual(x, mark) })
	})
	return full[:len(l)]
}

// roomy is the same program with lists that have room behind them, in which something lies.
func roomy(m api.Image, room *[]func() bool) api.Image {
	m = image.Copy(m)
	m.Regions, m.Comps, m.Gates = grown(m.Regions, api.Region{Base: 77}, room), grown(m.Comps, api.Comp{}, room), grown(m.Gates, api.Gate{Comp: 77}, room)
	for k := range m.Regions {
		m.Regions[k].Slots = grown(m.Regions[k].Slots, api.Slot{Cursor: 77}, room)
	}
	for k := range m.Comps {
		m.Comps[k].Roots = grown(m.Comps[k].Roots, api.Root{Reg: 77}, room)
		m.Comps[k].Code = grown(m.Comps[k].Code, api.Inst{Op: api.JMP}, room)
	}
	for k := range m.Gates {
		m.Gates[k].Args = grown(m.Gates[k].Args, api.Type{Seal: 77}, room)
		m.Gates[k].Results = grown(m.Gates[k].Results, api.Type{Seal: 77}, room)
	}
	return m
}

// TestHandedInStays: programs, with all their lists, and what stands behind these; and that is not of the program.
func TestHandedInStays(t *testing.T) {
	for n, q := range questions(t) {
		want := ask(q.m, q.s)
		var room []func() bool
		x := roomy(q.m, &room)
		was := image.Copy(x)
		if got := ask(x, q.s); !got.same(want) {
			t.Errorf("the program %d, with room behind its lists: other answers", n)
		}
		if !reflect.DeepEqual(image.Copy(x), was) {
			t.Errorf("the program %d has changed", n)
		}
		if slices.ContainsFunc(room, func(stays func() bool) bool { return !stays() }) {
			t.Errorf("the program %d: what stands behind a list has changed", n)
		}
	}
}

// spoil writes over all of a list, its spare room too.
func spoil[T any](l []T, with T) {
	l = l[:cap(l)]
	for k := range l {
		l[k] = with
	}
}

// marked is a state by which one knows a row.
func marked(k int) api.State {
	s := api.State{Live: true}
	s.Regs[3] = single(uint64(900 + k))
	return s
}

// TestRowsAreApart: a row that is written over, its spare room too, changes no other one; nor does the list of rows.
func TestRowsAreApart(t *testing.T) {
	tables := 0
	for n, q := range questions(t) {
		x := table0(q.m, q.s)
		was := copied(x)
		tables += min(1, len(x))
		for k := range x {
			spoil(x[k], marked(k))
			for gate := k + 1; gate < len(x); gate++ {
				if !slices.Equal(x[gate], was[gate]) {
					t.Fatalf("22.4: the program %d: the rows %d and %d share memory", n, k, gate)
				}
			}
		}
		for k, row := range x {
			if slices.ContainsFunc(row[:cap(row)], func(s api.State) bool { return s != marked(k) }) {
				t.Fatalf("22.4: the program %d: the row %d shares memory with a later one", n, k)
			}
		}
	}
	if tables < 80 {
		t.Errorf("there were %d Tables: the dice are too narrow", tables)
	}
}

// TestAnswersAreNew: a Table that is written over changes no other one; and a program that was handed in, written over, changes no answer.
func TestAnswersAreNew(t *testing.T) {
	for n, q := range questions(t) {
		m := image.Copy(q.m)
		before, between := ask(m, q.s), ask(m, q.s)
		want := between.copied()
		for k := range before.table {
			spoil(before.table[k], marked(k))
		}
		spoil(before.table, nil)
		if !reflect.DeepEqual(m, image.Copy(q.m)) {
			t.Fatalf("22.4: the program %d shares memory with an answer", n)
		}
		if after := ask(m, q.s); !between.same(want) || !after.same(want) {
			t.Fatalf("22.4: the program %d: two answers share memory", n)
		}
		for _, c := range m.Comps {
			spoil(c.Code, api.Inst{Op: 99})
		}
		spoil(m.Gates, api.Gate{Comp: 99})
		if !between.same(want) {
			t.Fatalf("22.4: the program %d: an answer shares memory with what was handed in", n)
		}
	}
}

// TestAskedAgain: the same again, and of other programs between, answers the same; and what was changed is looked at anew.
func TestAskedAgain(t *testing.T) {
	l := questions(t)
	var first []answers
	for _, q := range l {
		first = append(first, ask(q.m, q.s))
	}
	for n, q := range slices.Backward(l) {
		if !ask(q.m, q.s).same(first[n]) {
			t.Errorf("the program %d, asked again: other answers", n)
		}
	}
	m := alone(t, rounds)
	head := certificate(row(at(1, anyInt())))
	checkMake(t, "ahead of a change", m, head)
	m.Comps[0].Code[3].Imm = 0
	checkMake(t, "behind a change", m, certificate(row(at(0, anyInt()))))
	checkVerify(t, "behind a change", m, head, api.ErrProve, 0, 3)
	m.Comps[0].Code[4] = api.Inst{Op: api.OUT, A: 1}
	checkRefused(t, "behind another change", m, api.ErrCheck)
	m.Gates[0].Entry = 5
	checkNone(t, "behind a third one", m, head)
}

// TestAtOnce: it answers the same, whoever else asks at the same time, and however many goroutines run at once.
func TestAtOnce(t *testing.T) {
	l := questions(t)
	var wants []answers
	for _, q := range l {
		wants = append(wants, ask(q.m, q.s))
	}
	was := runtime.GOMAXPROCS(0)
	defer runtime.GOMAXPROCS(was)
	for _, n := range []int{1, 2, 8} {
		runtime.GOMAXPROCS(n)
		var all sync.WaitGroup
		for n := range 4 {
			all.Go(func() {
				for k := range l {
					at := (k*(2*n+1) + n) % len(l)
					if !ask(l[at].m, l[at].s).same(wants[at]) {
						t.Errorf("the program %d, at once: other answers", at)
					}
				}
			})
		}
		all.Wait()
	}
}

// wild is any number, mostly at the edge of something.
func (d dice) wild() int {
	return of(d, -1<<63, -1<<31, -1, 0, 1, 2, 3, 6, 8, 15, 16, 17, 127, 128, 255, 256, 65536, 65537, 1<<31-1, 1<<31, 1<<63-1)
}

// spoilt is a program in which something may be wrong.
func (d dice) spoilt() api.Image {
	m := d.any()
	c := &m.Comps[d.IntN(3)]
	i := &c.Code[d.IntN(len(c.Code))]
	g := &m.Gates[d.IntN(len(m.Gates))]
	r := &m.Regions[d.IntN(4)]
	switch d.IntN(9) {
	case 0:
		i.Op = api.Op(d.IntN(256))
	case 1:
		*of(d, &i.A, &i.B, &i.C, &i.Imm) = d.wild()
	case 2:
		c.Roots = append(c.Roots, api.Root{Reg: d.wild(), Cap: api.Cap{Base: d.number(), End: d.number(), Seal: d.wild()}})
	case 3:
		*of(d, &g.Comp, &g.Entry, &m.Depth) = d.wild()
	case 4:
		g.Args = []api.Type{{Cap: true, Base: d.number(), End: d.number(), Lo: d.number(), Hi: d.number(), Seal: d.wild()}}
	case 5:
		*of(d, &r.Base, &r.Len) = d.number()
	case 6:
		c.Code = c.Code[:d.IntN(2)]
	case 7:
		m.Comps = m.Comps[:d.IntN(3)+1]
	case 8:
		r.Slots = append(r.Slots, api.Slot{Cursor: d.number()})
	}
	return m
}

// TestAllArguments: whatever is handed in, there is an answer; of what is not right there is no certificate.
func TestAllArguments(t *testing.T) {
	t.Parallel()
	wrong := 0
	for seed := range uint64(500) {
		d := rolled(12000 + seed)
		m := d.spoilt()
		gates := strings.Repeat(row(), len(m.Gates))
		plain := "PADCE1" + low(uint64(len(m.Gates)), 1) + gates
		l := []string{"", plain, d.bent(plain), made0(many()[seed%100]), d.bent(made0(many()[seed%100])), string([]byte{255, 254, 0}) + plain, plain + strings.Repeat("x", 2000)}
		for range 5 {
			l = append(l, fmt.Sprint(d.Uint64()), "PADCE1"+string(rune(d.IntN(256)))+strings.Repeat("\xff", d.IntN(100)))
		}
		if isRight(m) {
			for _, s := range append(l, saying(d.turned(m, checker.Check(m).Table))) {
				against(t, m, s)
			}
			continue
		}
		wrong++
		checkRefused(t, "a program that is not right", m, api.ErrCheck)
		for _, s := range l {
			checkNone(t, "a program that is not right", m, s)
		}
	}
	if wrong < 100 {
		t.Errorf("%d programs were not right: the dice are too narrow", wrong)
	}
}

// made0 is what Make makes, without the error.
func made0(m api.Image) string {
	s, _ := cert.Make(m)
	return s
}
