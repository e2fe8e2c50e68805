package fastvm_test

import (
	"math"
	"reflect"
	"slices"
	"strings"
	"testing"

	"paddock/api"
	"paddock/fastvm"
)

// sevens is a program with a gate for each number of arguments, from none to seven, all registers of which have other roots.
func sevens(t testing.TB) api.Program {
	t.Helper()
	p := api.Program{Memory: "bytes"}
	for n := range 8 {
		p.Code = append(p.Code, bare(t, "fnop;fnop;fnop;fnop;fnop;fnop;fnop;fout a1;fret"))
		p.Gates = append(p.Gates, api.FEntry{Entry: n, Args: n, Results: 7 - n, Roots: with(map[int]uint64{15: uint64(n)})})
	}
	return p
}

func TestGatesThatAreThere(t *testing.T) {
	p := sevens(t)
	for gate := -2; gate < 20; gate++ {
		for n := range 20 {
			want := api.ErrArgs
			switch {
			case gate < 0 || gate > 7:
				want = api.ErrEntry
			case gate == n:
				want = api.OK
			}
			if x, e := fastvm.New(p, gate, make([]uint64, n), []uint64{1}); e != want || (x != nil) != (want == api.OK) {
				t.Errorf("13.2: the gate %d with %d arguments: %v, %d, want %d", gate, n, x != nil, e, want)
			}
		}
	}
	for _, gate := range []int{math.MinInt, -1 << 32, 1 << 32, math.MaxInt} {
		if x, e := fastvm.New(p, gate, nil, nil); e != api.ErrEntry || x != nil {
			t.Errorf("13.2: the gate %d: %v, %d", gate, x != nil, e)
		}
	}
	if x, e := fastvm.New(p, 0, []uint64{}, []uint64{}); e != api.OK || x == nil {
		t.Errorf("13.2: empty lists: %v, %d", x != nil, e)
	}
}

// TestBeginning: arguments stand in the place of what Roots say of their registers; all others, r0 too, have what Roots say.
func TestBeginning(t *testing.T) {
	p := sevens(t)
	args := []uint64{top, 0, 31, 32, 1 << 63, 34, 35}
	for gate := range 8 {
		want := look{snap: api.FSnap{Gate: gate, Pc: gate, Regs: with(map[int]uint64{15: uint64(gate)})}, memory: "bytes" + strings.Repeat("\x00", 65531)}
		copy(want.snap.Regs[1:], args[:gate])
		checkLook(t, "13.2: the beginning", begin(t, p, gate, args[:gate], []uint64{5}), want)
	}
	x := begin(t, p, 3, args[:3], nil)
	checkOutcome(t, "13.2: Entry is at hand", x.Step(), api.Outcome{Gate: 3, Pc: 4})
}

func TestBeginningMemory(t *testing.T) {
	all := varied()
	for _, n := range []int{0, 1, 2, 1023, 1024, 1025, 32768, 65535, 65536} {
		p := bareGate(t, 0, "fhalt")
		p.Memory = all[:n]
		if got := begin(t, p, 0, nil, nil).Memory(); got != all[:n]+strings.Repeat("\x00", 65536-n) {
			t.Errorf("13.2: memory of %d bytes has %d", n, len(got))
		}
	}
}

// scene is a program that uses all that New is handed.
func scene(t testing.TB) api.Program {
	t.Helper()
	return api.Program{
		Code: [][]api.FInst{
			bare(t, "fout a1;fout a2;fin a3;fout a3;fin a3;fout a3;flb a4 b8;fout a4;fcall i1;fout a1;fli a5 i1;flb a4 b8 i1;fcall i1;fbne a1 b0 i10;fhalt a1"),
			bare(t, "ftrap i9;flb a2 b9 i2;fadd a1 b1 c2;fret"),
		},
		Gates:  []api.FEntry{{Args: 2, Roots: [16]uint64{8: 16}}, {Entry: 1, Args: 1, Results: 1, Roots: [16]uint64{9: 30}}},
		Memory: varied(),
		Depth:  1,
	}
}

// TestHandedInIsTheCallers: what was handed in may be written over.
func TestHandedInIsTheCallers(t *testing.T) {
	p := scene(t)
	args, inputs := []uint64{31, 32}, []uint64{41, 42, 43}
	y := begin(t, scene(t), 0, slices.Clone(args), slices.Clone(inputs))
	x := begin(t, p, 0, args, inputs)
	for _, row := range p.Code {
		fill(row, api.FInst{Op: 200, A: 99, B: -1, Imm: top})
	}
	fill(p.Code, nil)
	fill(p.Gates, api.FEntry{Entry: 99, Args: 99, Results: -1})
	fill(args, 1000)
	fill(inputs, 2000)
	for range 60 {
		checkOutcome(t, "13.2: what was handed in, written over", x.Step(), y.Step())
		checkLook(t, "13.2: what was handed in, written over", x, lookAt(y))
	}
	m := varied()
	want := []uint64{31, 32, 41, 42, uint64(m[16]), 31 + uint64(m[32])}
	if got := x.Out(); !slices.Equal(got[:min(6, len(got))], want) {
		t.Errorf("13.2: put out %v, want %v at first", got, want)
	}
}

// roomy is a list with spare room, all of it filled.
func roomy[T any](l []T, with T) []T {
	r := make([]T, len(l)+8)
	fill(r, with)
	copy(r, l)
	return r[:len(l)]
}

// TestHandedInStays: a machine writes into nothing that was handed in, nor into what stands behind it.
func TestHandedInStays(t *testing.T) {
	made := func() (api.Program, []uint64, []uint64, []uint64) {
		p := scene(t)
		for k, row := range p.Code {
			p.Code[k] = roomy(row, api.FInst{Op: 99})
		}
		p.Code, p.Gates = roomy(p.Code, nil), roomy(p.Gates, api.FEntry{Entry: 77})
		return p, roomy([]uint64{1, 2}, 7), roomy([]uint64{3}, 7), roomy([]uint64{4, 5}, 7)
	}
	p, args, inputs, more := made()
	x := begin(t, p, 0, args, inputs)
	x.Run(3)
	x = begin(t, p, 0, args, inputs)
	for range 6 {
		x.Step()
	}
	x.Give(more...)
	y := x.Copy()
	x.Give(9, 9, 9)
	x.Run(100)
	y.Give(8)
	y.Run(100)
	q, args2, inputs2, more2 := made()
	for k, row := range p.Code {
		if !slices.Equal(whole(row), whole(q.Code[k])) {
			t.Errorf("a row that was handed in was written into: %v", row)
		}
	}
	if !reflect.DeepEqual(whole(p.Code)[2:], whole(q.Code)[2:]) || !slices.Equal(whole(p.Gates), whole(q.Gates)) {
		t.Errorf("a program that was handed in was written into: %+v", p.Gates)
	}
	if !slices.Equal(whole(args), whole(args2)) || !slices.Equal(whole(inputs), whole(inputs2)) || !slices.Equal(whole(more), whole(more2)) {
		t.Errorf("lists that were handed in were written into: %v, %v, %v", whole(args), whole(inputs), whole(more))
	}
}

func TestNil(t *testing.T) {
	var none *fastvm.Machine
	for range 2 {
		checkOutcome(t, "a nil machine: Step", none.Step(), api.Outcome{})
		for _, fuel := range []int{-1, 0, 1, 1 << 40} {
			checkOutcome(t, "a nil machine: Run", none.Run(fuel), api.Outcome{})
		}
		none.Give()
		none.Give(1, 2)
		if none.Snap() != (api.FSnap{}) || len(none.Out()) != 0 || len(none.Touches()) != 0 || none.Memory() != "" || none.Copy() != nil {
			t.Errorf("a nil machine: %+v, %v, %v, %q, %v", none.Snap(), none.Out(), none.Touches(), none.Memory(), none.Copy())
		}
	}
}
