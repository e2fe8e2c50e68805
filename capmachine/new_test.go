package capmachine_test

import (
	"reflect"
	"slices"
	"strings"
	"testing"

	"paddock/api"
	"paddock/capmachine"
	"paddock/tagmem"
)

func checkNew(t *testing.T, what string, m api.Image, gate int, args []uint64, want api.Errno) {
	t.Helper()
	x, e := capmachine.New(m, gate, args, []uint64{1})
	if e != want || (x != nil) != (want == api.OK) {
		t.Errorf("7.1: %s: %v, %d, want %d", what, x, e, want)
	}
}

// manyGates is a program with gates of all kinds of arguments.
func manyGates(t *testing.T) api.Image {
	t.Helper()
	return parsed(t, yard+`halt r1
trap 3
comp
trap 4
trap 5
gate none 0 0 -> cap 0 32 0 0 r 0
gate one 0 1 int ->
gate seven 1 1 int int int int int int int -> int
gate cap 0 0 cap 0 32 0 0 r 0 ->
gate last 0 0 int int cap 0 32 0 0 r 0 ->
gate first 0 0 cap 0 32 0 0 r 0 int ->
`)
}

func TestNewEntries(t *testing.T) {
	m := manyGates(t)
	one, seven := []uint64{9}, []uint64{1, 2, 3, 4, 5, 6, 7}
	checkNew(t, "no arguments", m, 0, nil, api.OK)
	checkNew(t, "no arguments", m, 0, []uint64{}, api.OK)
	checkNew(t, "one argument", m, 1, one, api.OK)
	checkNew(t, "seven arguments", m, 2, seven, api.OK)
	for _, gate := range []int{-1, 6, 7, 16, 1 << 40, -1 << 63, 1<<63 - 1} {
		checkNew(t, "a gate that is not there", m, gate, nil, api.ErrEntry)
		checkNew(t, "a gate that is not there", m, gate, one, api.ErrEntry)
	}
	for gate, args := range map[int]int{3: 1, 4: 3, 5: 2} {
		checkNew(t, "an argument of capabilities", m, gate, make([]uint64, args), api.ErrEntry)
		checkNew(t, "an argument of capabilities, and too few", m, gate, nil, api.ErrEntry)
		checkNew(t, "an argument of capabilities, and too many", m, gate, seven, api.ErrEntry)
	}
}

func TestNewArguments(t *testing.T) {
	m := manyGates(t)
	for gate, right := range map[int]int{0: 0, 1: 1, 2: 7} {
		for n := range 20 {
			want := api.ErrArgs
			if n == right {
				want = api.OK
			}
			checkNew(t, "so many arguments", m, gate, make([]uint64, n), want)
		}
	}
}

// TestNewPrograms: what may not be comes first, whatever the gate and the arguments are.
func TestNewPrograms(t *testing.T) {
	for want, change := range map[api.Errno]func(m *api.Image){
		api.ErrCount:  func(m *api.Image) { m.Depth = 0 },
		api.ErrRegion: func(m *api.Image) { m.Regions[0].Len = 17 },
		api.ErrSlot:   func(m *api.Image) { m.Regions[1].Slots[0].Cursor = 41 },
		api.ErrRoot:   func(m *api.Image) { m.Comps[0].Roots[0].Reg = 7 },
		api.ErrOp:     func(m *api.Image) { m.Comps[1].Code[0].Op = 14 },
		api.ErrField:  func(m *api.Image) { m.Comps[1].Code[0].A = 1 },
		api.ErrTarget: func(m *api.Image) { m.Comps[0].Code[0] = api.Inst{Op: api.CALL, Imm: 6} },
		api.ErrGate:   func(m *api.Image) { m.Gates[5].Entry = 2 },
		api.ErrType:   func(m *api.Image) { m.Gates[5].Args[1].Hi = 3 },
	} {
		m := manyGates(t)
		change(&m)
		checkNew(t, "a program that may not be", m, 0, nil, want)
		checkNew(t, "and no such gate", m, 9, nil, want)
		checkNew(t, "and a gate of capabilities", m, 3, []uint64{1}, want)
		checkNew(t, "and too many arguments", m, 0, []uint64{1}, want)
	}
	checkNew(t, "no program", api.Image{}, 0, nil, api.ErrCount)
	m := manyGates(t)
	m.Depth = api.MaxDepth + 1
	checkNew(t, "a depth that is too great", m, 0, nil, api.ErrCount)
}

// begun is how a machine stands at the beginning.
func begun(m api.Image, gate int, args []uint64, roots map[int]api.Cap) look {
	mem := tagmem.NewTagged(m)
	l := look{snap: api.Snap{Gate: gate, Pc: m.Gates[gate].Entry}, bytes: mem.Bytes(), caps: map[uint64]api.Cap{}}
	for k, n := range args {
		l.snap.Regs[1+k] = integer(n)
	}
	for r, c := range roots {
		l.snap.Regs[r] = holding(c)
	}
	for _, at := range mem.Tags() {
		v, _ := mem.LoadCap(at)
		l.caps[at] = v.C
	}
	return l
}

func TestBeginning(t *testing.T) {
	m := manyGates(t)
	roots := map[int]api.Cap{}
	for k, c := range yardCaps {
		roots[8+k] = c
	}
	checkLook(t, "7.1: a gate without arguments", begin(t, m, 0, nil, nil), begun(m, 0, nil, roots))
	checkLook(t, "7.1: a gate with one", begin(t, m, 1, []uint64{top}, nil), begun(m, 1, []uint64{top}, roots))
	seven := []uint64{7, 6, 5, 4, 3, 2, 1}
	checkLook(t, "7.1: a gate with seven, of a compartment without roots", begin(t, m, 2, seven, []uint64{5}), begun(m, 2, seven, nil))
	checkOutcome(t, "7.1: the gate's instruction", begin(t, m, 1, []uint64{1}, nil).Step(), api.Outcome{End: api.Trapped, Value: 3, Gate: 1, Pc: 1})
	checkOutcome(t, "7.1: the gate's instruction", begin(t, m, 2, seven, nil).Step(), api.Outcome{End: api.Trapped, Value: 5, Gate: 2, Pc: 1})
}

// TestBeginningMemory: that of a program without regions, and of one that fills all of it.
func TestBeginningMemory(t *testing.T) {
	for _, regions := range []string{"", "region 0 65536 bytes #0102\n", "region 65504 16 bytes #ff\nregion 65520 16 slots\nslot cap 0 4294967296 0 0 rwcdsu 15 at 0\n"} {
		m := parsed(t, "depth 1\n"+regions+"comp\nret\ngate main 0 0 ->\n")
		checkLook(t, "7.1: memory", begin(t, m, 0, nil, nil), begun(m, 0, nil, nil))
	}
}

// scene is a program that uses all that New is handed.
func scene(t *testing.T) api.Image {
	t.Helper()
	return parsed(t, yard+strings.Join([]string{
		"lc r4 r9 0", "lb r5 r4 0", "out r5", "in r6", "out r6", "in r6", "out r6", "out r1", "out r2", "call inner", "out r1", "halt r1",
		"comp", "root r9 0 16 3 r 0", "lb r1 r9 0", "ret",
		"gate main 0 0 int int ->", "gate inner 1 0 int int -> int\n",
	}, "\n"))
}

func scribble(m api.Image) {
	for k := range m.Regions {
		fill(m.Regions[k].Slots, api.Slot{})
	}
	for k := range m.Comps {
		fill(m.Comps[k].Roots, api.Root{Reg: 99})
		fill(m.Comps[k].Code, api.Inst{Op: api.TRAP, Imm: 200})
	}
	for k := range m.Gates {
		fill(m.Gates[k].Args, api.Type{Cap: true})
		fill(m.Gates[k].Results, api.Type{Cap: true})
	}
	fill(m.Regions, api.Region{})
	fill(m.Comps, api.Comp{})
	fill(m.Gates, api.Gate{Comp: 77, Entry: 78})
}

func fill[T any](l []T, with T) {
	for k := range l {
		l[k] = with
	}
}

// TestHandedInIsTheCallers: what was handed in may be written over, between any two steps.
func TestHandedInIsTheCallers(t *testing.T) {
	m, twin := scene(t), scene(t)
	args, inputs := []uint64{31, 32}, []uint64{41, 42, 43}
	y := begin(t, twin, 0, slices.Clone(args), slices.Clone(inputs))
	x := begin(t, m, 0, args, inputs)
	scribble(m)
	fill(args, 1000)
	fill(inputs, 2000)
	for range 30 {
		want := y.Step()
		checkOutcome(t, "7.1: what was handed in, written over", x.Step(), want)
		checkLook(t, "7.1: what was handed in, written over", x, lookAt(y))
	}
	if got, want := x.Out(), []uint64{5, 41, 42, 31, 32, 4}; !slices.Equal(got, want) {
		t.Errorf("7.1: put out %v, want %v", got, want)
	}
}

// TestHandedInStays: a machine writes into nothing that was handed in, nor into what stands behind it.
func TestHandedInStays(t *testing.T) {
	m, twin := scene(t), scene(t)
	args, inputs := make([]uint64, 2, 8), make([]uint64, 3, 8)
	fill(args[:8], 6)
	fill(inputs[:8], 7)
	x := begin(t, m, 0, args, inputs)
	x.Run(100)
	sixes, sevens := slices.Repeat([]uint64{6}, 8), slices.Repeat([]uint64{7}, 8)
	if !reflect.DeepEqual(m, twin) || !slices.Equal(args[:8], sixes) || !slices.Equal(inputs[:8], sevens) {
		t.Errorf("7.1: what is handed in was written into: %+v, %v, %v", m, args[:8], inputs[:8])
	}
}
