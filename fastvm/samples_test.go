package fastvm_test

import (
	"reflect"
	"slices"
	"strconv"
	"strings"
	"testing"

	"paddock/api"
	"paddock/fastvm"
)

const top = ^uint64(0)

// names are the operations of bare addresses, in small letters.
func names() map[string]api.FOp {
	return map[string]api.FOp{
		"fnop": api.FNop, "fli": api.FLI, "fmov": api.FMOV,
		"fadd": api.FADD, "fsub": api.FSUB, "fmul": api.FMUL, "fand": api.FAND, "for": api.FOR, "fxor": api.FXOR, "fshl": api.FSHL, "fshr": api.FSHR,
		"faddi": api.FADDI, "fslt": api.FSLT, "fseq": api.FSEQ,
		"fjmp": api.FJMP, "fbeq": api.FBEQ, "fbne": api.FBNE, "fblt": api.FBLT, "fbge": api.FBGE,
		"fhalt": api.FHALT, "ftrap": api.FTRAP, "fin": api.FIN, "fout": api.FOUT, "fcall": api.FCALL, "fret": api.FRET,
		"flb": api.FLB, "flw": api.FLW, "fsb": api.FSB, "fsw": api.FSW, "flc": api.FLC, "fsc": api.FSC,
		"fglt": api.FGLT, "fgge": api.FGGE, "fguard": api.FGUARD,
	}
}

// ops are the operations, in the order of their numbers.
func ops() []api.FOp {
	var l []api.FOp
	for _, op := range names() {
		l = append(l, op)
	}
	slices.Sort(l)
	return l
}

func nameOf(op api.FOp) string {
	for name, o := range names() {
		if o == op {
			return name
		}
	}
	return "no operation"
}

// bare reads code: instructions with a semicolon between, each a name and those fields that are not 0, as a1, b8, c7, i-3.
func bare(t testing.TB, text string) []api.FInst {
	t.Helper()
	var l []api.FInst
	for _, line := range strings.Split(text, ";") {
		words := strings.Fields(line)
		op, there := names()[words[0]]
		if !there {
			t.Fatalf("there is no %q", words[0])
		}
		i := api.FInst{Op: op}
		for _, w := range words[1:] {
			n, e := strconv.Atoi(w[1:])
			field := map[byte]*int{'a': &i.A, 'b': &i.B, 'c': &i.C}[w[0]]
			switch {
			case e != nil || field == nil && w[0] != 'i':
				t.Fatalf("there is no field %q", w)
			case field == nil:
				i.Imm = uint64(n)
			default:
				*field = n
			}
		}
		l = append(l, i)
	}
	return l
}

// varied are bytes for all of memory, of which no eight stand twice near one another.
func varied() string {
	l := make([]byte, api.MaxMem)
	for k := range l {
		l[k] = byte(k*7 + k>>8*31 + 1)
	}
	return string(l)
}

// regs are what all registers hold, of which none is like another one.
func regs() [api.Regs]uint64 {
	var l [api.Regs]uint64
	for k := range l {
		l[k] = 1000 + 100*uint64(k)
	}
	return l
}

// with is regs, but for some.
func with(some map[int]uint64) [api.Regs]uint64 {
	l := regs()
	for k, n := range some {
		l[k] = n
	}
	return l
}

// alone is a program of one gate without arguments, by whose Roots all registers have what they have at first.
func alone(t testing.TB, roots [api.Regs]uint64, code string) api.Program {
	t.Helper()
	return api.Program{Code: [][]api.FInst{bare(t, code)}, Gates: []api.FEntry{{Roots: roots}}, Memory: varied(), Depth: 2}
}

func begin(t testing.TB, p api.Program, gate int, args []uint64, inputs []uint64) *fastvm.Machine {
	t.Helper()
	x, e := fastvm.New(p, gate, args, inputs)
	if x == nil || e != api.OK {
		t.Fatalf("13.2: New: %v, %d, want a machine and OK", x, e)
	}
	return x
}

// look is all that can be seen of a machine.
type look struct {
	snap    api.FSnap
	out     []uint64
	touches []api.Touch
	memory  string
}

func lookAt(x *fastvm.Machine) look {
	return look{x.Snap(), x.Out(), x.Touches(), x.Memory()}
}

// same holds all against all; a list without elements may be nil or not.
func (l look) same(o look) bool {
	return l.snap == o.snap && slices.Equal(l.out, o.out) && slices.Equal(l.touches, o.touches) && l.memory == o.memory
}

// unlike tells, for a message, what of two looks is not the same.
func (l look) unlike(o look) []any {
	var parts []any
	for _, p := range []struct {
		name      string
		got, want any
	}{
		{"snap", l.snap, o.snap}, {"out", l.out, o.out}, {"touches", l.touches, o.touches}, {"bytes", len(l.memory), len(o.memory)},
	} {
		if !reflect.DeepEqual(p.got, p.want) {
			parts = append(parts, p.name, p.got, "want", p.want)
		}
	}
	for at := range min(len(l.memory), len(o.memory)) {
		if l.memory[at] != o.memory[at] {
			return append(parts, "the byte at", at, l.memory[at], "want", o.memory[at])
		}
	}
	return parts
}

func checkLook(t testing.TB, what string, x *fastvm.Machine, want look) {
	t.Helper()
	if got := lookAt(x); !got.same(want) {
		t.Errorf("%s: %v", what, got.unlike(want))
	}
}

func checkOutcome(t testing.TB, what string, got, want api.Outcome) {
	t.Helper()
	if got != want {
		t.Errorf("%s: %+v, want %+v", what, got, want)
	}
}

// checkOver asks a machine whose run is over again and again: it answers the same, and nothing changes any more.
func checkOver(t testing.TB, what string, x *fastvm.Machine, want api.Outcome) {
	t.Helper()
	before := lookAt(x)
	if want.End != api.Spent {
		// Without fuel first: were it over no more, a Step would find the same end again.
		checkOutcome(t, "13.4: "+what+", run again without fuel", x.Run(0), want)
	}
	for range 2 {
		checkOutcome(t, "13.3: "+what+", asked again", x.Step(), want)
		for _, fuel := range []int{-1, 0, 1, 1000} {
			checkOutcome(t, "13.4: "+what+", run again", x.Run(fuel), want)
		}
	}
	checkLook(t, "13.3: "+what+", asked again", x, before)
}

// stored is a memory with a number of so many bytes laid in it, and noughts behind the eighth.
func stored(memory string, addr int, size int, n uint64) string {
	l := []byte(memory)
	for k := range size {
		l[addr+k] = 0
		if k < 8 {
			l[addr+k] = byte(n >> (8 * k))
		}
	}
	return string(l)
}

// read is a number of eight bytes at most.
func read(memory string, addr int, size int) uint64 {
	n := uint64(0)
	for k := min(size, 8) - 1; k >= 0; k-- {
		n = n*256 + uint64(memory[addr+k])
	}
	return n
}

func fill[T any](l []T, with T) {
	for k := range l {
		l[k] = with
	}
}

// whole is a list with its spare room.
func whole[T any](l []T) []T { return l[:cap(l)] }
