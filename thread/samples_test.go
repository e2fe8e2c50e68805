package thread_test

import (
	"slices"
	"strconv"
	"strings"
	"testing"

	"paddock/api"
	"paddock/fastvm"
	"paddock/thread"
)

const (
	top   = ^uint64(0)
	least = -1 << 63
	most  = 1<<63 - 1
)

// names are the operations of bare addresses, in small letters.
func names() map[string]api.FOp {
	return map[string]api.FOp{
		"fnop": api.FNop, "fli": api.FLI, "fmov": api.FMOV,
		"fadd": api.FADD, "fsub": api.FSUB, "fmul": api.FMUL, "fand": api.FAND, "for": api.FOR, "fxor": api.FXOR, "fshl": api.FSHL, "fshr": api.FSHR,
		"faddi": api.FADDI, "fslt": api.FSLT, "fseq": api.FSEQ,
		"fjmp": api.FJMP, "fbeq": api.FBEQ, "fbne": api.FBNE, "fblt": api.FBLT, "fbge": api.FBGE,
		"fhalt": api.FHALT, "ftrap": api.FTRAP, "fin": api.FIN, "fout": api.FOUT, "fcall": api.FCALL, "fret": api.FRET,
		"flb": api.FLB, "flw": api.FLW, "fsb": api.FSB, "fsw": api.FSW, "flc": api.FLC, "fsc": api.FSC,
		"fglt": api.FGLT, "fgge": api.FGGE, "fguard": api.FGUARD,
	}
}

// ops are the operations, in the order of their numbers.
func ops() []api.FOp {
	var l []api.FOp
	for _, op := range names() {
		l = append(l, op)
	}
	slices.Sort(l)
	return l
}

func nameOf(op api.FOp) string {
	for name, o := range names() {
		if o == op {
			return name
		}
	}
	return "no operation"
}

// bare reads code: instructions with a semicolon between, each a name and those fields that are not 0, as a1, b8, c7, i-3.
func bare(t testing.TB, text string) []api.FInst {
	t.Helper()
	var l []api.FInst
	for _, line := range strings.Split(text, ";") {
		words := strings.Fields(line)
		op, there := names()[words[0]]
		if !there {
			t.Fatalf("there is no %q", words[0])
		}
		i := api.FInst{Op: op}
		for _, w := range words[1:] {
			n, e := strconv.Atoi(w[1:])
			field := map[byte]*int{'a': &i.A, 'b': &i.B, 'c': &i.C}[w[0]]
			switch {
			case e != nil || field == nil && w[0] != 'i':
				t.Fatalf("there is no field %q", w)
			case field == nil:
				i.Imm = uint64(n)
			default:
				*field = n
			}
		}
		l = append(l, i)
	}
	return l
}

// varied are bytes for all of memory, of which no eight stand twice near one another.
func varied() string {
	l := make([]byte, api.MaxMem)
	for k := range l {
		l[k] = byte(k*7 + k>>8*31 + 1)
	}
	return string(l)
}

// regs are what all registers hold at first, of which none is like another one.
func regs() [api.Regs]uint64 {
	var l [api.Regs]uint64
	for k := range l {
		l[k] = 1000 + 100*uint64(k)
	}
	return l
}

// with is regs, but for some.
func with(some map[int]uint64) [api.Regs]uint64 {
	l := regs()
	for k, n := range some {
		l[k] = n
	}
	return l
}

// alone is a program of one gate without arguments, by whose Roots all registers have what they have at first.
func alone(t testing.TB, roots [api.Regs]uint64, code string) api.Program {
	t.Helper()
	return api.Program{Code: [][]api.FInst{bare(t, code)}, Gates: []api.FEntry{{Roots: roots}}, Memory: varied(), Depth: 2}
}

// plain is a program of one gate, whose roots and whose memory are noughts.
func plain(t testing.TB, depth int, code string) api.Program {
	t.Helper()
	return api.Program{Code: [][]api.FInst{bare(t, code)}, Gates: []api.FEntry{{}}, Depth: depth}
}

// ran is what Run answers of a run that may be.
func ran(t testing.TB, c *thread.Code, gate int, args, inputs []uint64, fuel int) api.Result {
	t.Helper()
	r, e := c.Run(gate, args, inputs, fuel)
	if e != api.OK {
		t.Fatalf("23.2: Run at the gate %d: %d, want OK", gate, e)
	}
	return r
}

// machined is what the second machine answers, puts out and touches.
func machined(t testing.TB, p api.Program, gate int, args, inputs []uint64, fuel int) api.Result {
	t.Helper()
	x, e := fastvm.New(p, gate, args, inputs)
	if e != api.OK {
		t.Fatalf("a run may not begin: %d", e)
	}
	o := x.Run(fuel)
	return api.Result{Outcome: o, Out: x.Out(), Touches: x.Touches()}
}

// same holds all against all; a list without elements may be nil or not.
func same(a, b api.Result) bool {
	return a.Outcome == b.Outcome && slices.Equal(a.Out, b.Out) && slices.Equal(a.Touches, b.Touches)
}

func checkResult(t testing.TB, what string, got, want api.Result) {
	t.Helper()
	if !same(got, want) {
		t.Errorf("23.2: %s: %+v, want %+v", what, got, want)
	}
}

// checkRun runs a program from the gate 0 without arguments.
func checkRun(t testing.TB, what string, p api.Program, inputs []uint64, fuel int, want api.Result) {
	t.Helper()
	checkResult(t, what, ran(t, thread.Compile(p), 0, nil, inputs, fuel), want)
}

func checkOutcome(t testing.TB, what string, p api.Program, inputs []uint64, fuel int, want api.Outcome) {
	t.Helper()
	if got := ran(t, thread.Compile(p), 0, nil, inputs, fuel).Outcome; got != want {
		t.Errorf("23.2: %s: %+v, want %+v", what, got, want)
	}
}

// checkEmpty looks whether there is an error, and nothing beside it.
func checkEmpty(t testing.TB, what string, c *thread.Code, gate int, args, inputs []uint64, fuel int, want api.Errno) {
	t.Helper()
	r, e := c.Run(gate, args, inputs, fuel)
	if e != want || r.Outcome != (api.Outcome{}) || r.Out != nil || r.Touches != nil {
		t.Errorf("23.2: %s: Run(%d, %d args, .., %d): %+v, %d, want nothing, %d", what, gate, len(args), fuel, r, e, want)
	}
}

func checkBlocks(t testing.TB, what string, p api.Program, gate int, want int) {
	t.Helper()
	if n := thread.Compile(p).Blocks(gate); n != want {
		t.Errorf("23.3: %s: Blocks(%d) is %d, want %d", what, gate, n, want)
	}
}

// ended is how a run ended in the code of the gate 0.
func ended(end api.End, value uint64, pc int) api.Outcome {
	return api.Outcome{End: end, Value: value, Pc: pc}
}

func halted(value uint64, pc int) api.Outcome { return ended(api.Halted, value, pc) }

func spent(pc int) api.Outcome { return ended(api.Spent, 0, pc) }

func faulted(f api.Fault, pc int) api.Outcome {
	return api.Outcome{End: api.Faulted, Fault: f, Pc: pc}
}

func load(addr, size uint64) api.Touch { return api.Touch{Addr: addr, Size: size} }

func store(addr, size uint64) api.Touch { return api.Touch{Store: true, Addr: addr, Size: size} }

// read is a number of eight bytes at most, the lowest first.
func read(memory string, addr int, size int) uint64 {
	n := uint64(0)
	for k := min(size, 8) - 1; k >= 0; k-- {
		n = n*256 + uint64(memory[addr+k])
	}
	return n
}

// isGuard tells whether C of an operation is a code.
func isGuard(op api.FOp) bool { return op == api.FGLT || op == api.FGGE || op == api.FGUARD }

// namesOne tells whether an operation names an instruction.
func namesOne(op api.FOp) bool {
	return slices.Contains([]api.FOp{api.FJMP, api.FBEQ, api.FBNE, api.FBLT, api.FBGE}, op)
}

// spoil writes over all of a list, its spare room too.
func spoil[T any](l []T, with T) {
	l = l[:cap(l)]
	for k := range l {
		l[k] = with
	}
}

// roomy is a list with spare room, all of it filled.
func roomy[T any](l []T, with T) []T {
	r := make([]T, len(l)+8)
	spoil(r, with)
	copy(r, l)
	return r[:len(l)]
}

// whole is a list with its spare room.
func whole[T any](l []T) []T { return l[:cap(l)] }

// many are n times the same, as a list.
func many[T any](n int, v T) []T { return slices.Repeat([]T{v}, n) }
