package capmachine_test

import (
	"math/rand/v2"
	"slices"
	"testing"

	"paddock/api"
	"paddock/capmachine"
	"paddock/image"
	"paddock/instr"
)

// dice makes programs, the same ones in each run of the tests.
type dice struct{ *rand.Rand }

func rolled(seed uint64) dice { return dice{rand.New(rand.NewPCG(seed, 7))} }

func (d dice) mostly() bool { return d.IntN(12) > 0 }

// pool are the capabilities of which roots are made: the one with the number k lies in the register 8 + k, in each compartment that has it.
func pool() []api.Cap {
	return []api.Cap{
		{Base: 0, End: 64, Cursor: 8, Perms: api.Load | api.Store},
		{Base: 64, End: 128, Cursor: 64, Perms: api.Load | api.Store | api.LoadCap | api.StoreCap},
		{Base: 1, End: 20, Cursor: 5, Perms: api.Seal | api.Unseal},
		{Base: 0, End: 64, Cursor: 16, Perms: api.Load | api.Store, Seal: 5},
		{Base: 0, End: 1 << 32, Cursor: 65512, Perms: 15},
		{Base: 64, End: 96, Cursor: 80, Perms: api.LoadCap},
		{Base: 15, End: 16, Cursor: 16, Perms: api.AllPerms &^ api.Exec},
		{Base: 0, End: 128, Cursor: 64, Perms: api.AllPerms &^ api.Exec},
	}
}

// typeOf is a type of capabilities like one of the pool.
func typeOf(c api.Cap) api.Type {
	return api.Type{Cap: true, Base: c.Base, End: c.End, Lo: 0, Hi: 1 << 33, Perms: c.Perms, Seal: c.Seal}
}

func (d dice) types(most int, caps bool) []api.Type {
	l := make([]api.Type, d.IntN(most))
	for k := range l {
		if caps && d.IntN(3) == 0 {
			l[k] = typeOf(pool()[d.IntN(8)])
		}
	}
	return l
}

func (d dice) gates(comps int) []api.Gate {
	l := []api.Gate{{Args: d.types(4, false), Results: d.types(3, true)}}
	for range d.IntN(4) {
		l = append(l, api.Gate{Comp: d.IntN(comps), Args: d.types(3, true), Results: d.types(3, true)})
	}
	return l
}

func (d dice) roots() []api.Root {
	var l []api.Root
	for k, c := range pool() {
		if d.mostly() {
			l = append(l, api.Root{Reg: 8 + k, Cap: c})
		}
	}
	return l
}

func (d dice) program() api.Image {
	slot := api.Slot{Type: typeOf(pool()[0]), Cursor: 8}
	m := api.Image{
		Depth: 1 + d.IntN(3),
		Regions: []api.Region{
			{Base: 0, Len: 64, Data: "\x10\x00\x07\x05 some bytes, and others"},
			{Base: 64, Len: 64, Slots: []api.Slot{slot, {Type: typeOf(pool()[1]), Cursor: 96}, {Type: typeOf(pool()[3]), Cursor: 1}, slot}},
			{Base: 65520, Len: 16, Data: "end"},
		},
	}
	comps := 1 + d.IntN(3)
	m.Gates = d.gates(comps)
	for range comps {
		m.Comps = append(m.Comps, api.Comp{Roots: d.roots(), Code: d.code(len(m.Comps), m.Gates)})
	}
	return m
}

// ops are the operations that names have.
func ops() []api.Op {
	var l []api.Op
	for n := range 256 {
		if instr.Name(api.Op(n)) != "" {
			l = append(l, api.Op(n))
		}
	}
	return l
}

// code is that of a compartment: a piece for each of its gates, which gives back in the end, mostly.
func (d dice) code(comp int, gates []api.Gate) []api.Inst {
	l := d.row(3, gates)
	for k := range gates {
		if gates[k].Comp != comp {
			continue
		}
		gates[k].Entry = len(l)
		l = append(l, d.row(2+d.IntN(6), gates)...)
		l = append(l, d.handed(gates[k].Results)...)
		if d.mostly() {
			l = append(l, api.Inst{Op: api.RET})
		}
	}
	for k, i := range l {
		if op := i.Op; op == api.CPC || op >= api.JMP && op <= api.BGE {
			l[k].Imm = d.IntN(len(l))
		}
	}
	return l
}

// row is a row of instructions. What must go together to go on stands together, mostly; and what hardly ever has a fault stands there more often, so that runs are not over at once.
func (d dice) row(size int, gates []api.Gate) []api.Inst {
	var l []api.Inst
	all := ops()
	for len(l) < size {
		op := all[d.IntN(len(all))]
		switch d.IntN(8) {
		case 0:
			op = api.CALL
		case 1, 2, 3:
			op = all[d.IntN(13)]
		}
		if (op == api.HALT || op == api.TRAP || op == api.RET) && d.mostly() {
			continue
		}
		i := d.inst(op, len(gates))
		switch op {
		case api.CALL:
			l = append(l, d.handed(gates[i.Imm].Args)...)
		case api.JC:
			if d.IntN(3) > 0 {
				l = append(l, api.Inst{Op: api.CPC, A: i.A})
			}
			if d.IntN(4) == 0 {
				l = append(l, api.Inst{Op: api.CINCI, A: i.A, B: i.A, Imm: d.IntN(256) - 40})
			}
		}
		l = append(l, i)
	}
	return l
}

// handed lays in the first registers what is of these types.
func (d dice) handed(types []api.Type) []api.Inst {
	var l []api.Inst
	for k, t := range types {
		i := api.Inst{Op: api.LI, A: 1 + k, Imm: d.IntN(100)}
		if t.Cap {
			i = api.Inst{Op: api.MOV, A: 1 + k, B: 8 + slices.IndexFunc(pool(), func(c api.Cap) bool { return typeOf(c) == t })}
		}
		if d.mostly() {
			l = append(l, i)
		}
	}
	return l
}

// register is one that likely holds a capability, or an integer.
func (d dice) register(capability bool) int {
	if capability == d.mostly() {
		return 8 + d.IntN(8)
	}
	return d.IntN(8)
}

// answersCap are the operations whose A is a capability.
func answersCap(op api.Op) bool {
	return op >= api.CINC && op <= api.CUNSEAL || op == api.CPC || op == api.LC || op == api.JC || op == api.GTAG || op == api.SC
}

func (d dice) inst(op api.Op, gates int) api.Inst {
	i := api.Inst{Op: op}
	fields := map[rune]*int{'a': &i.A, 'b': &i.B, 'c': &i.C}
	for k, letter := range instr.Shape(op) {
		switch letter {
		case 'r':
			*fields[rune('a'+k)] = d.register(k == 0 && answersCap(op) || op == api.CSAME)
		case 'i':
			i.Imm = d.IntN(24) * (1 + d.IntN(2))
			if op != api.GLT && op != api.GGE {
				i.Imm -= 10
			}
			if (op == api.LC || op == api.SC) && d.mostly() {
				i.Imm &^= 15
			}
		case 'n':
			i.Imm = d.IntN(40)
		case 'p':
			i.Imm = []int{127, 127 - 1<<d.IntN(7), d.IntN(4)}[d.IntN(3)]
		case 's':
			i.Imm = d.IntN(2) * 5
		case 'g':
			i.Imm = d.IntN(gates)
		}
	}
	if op >= api.GLT {
		i.C = d.IntN(256)
	}
	if op == api.TRAP {
		i.Imm = d.IntN(256)
	}
	for _, letter := range needs[op] {
		*fields[letter|32] = d.register(letter < 'a')
	}
	return i
}

// right is a program that may be, and what its gate 0 takes.
func (d dice) right(t *testing.T) (api.Image, []uint64, []uint64) {
	t.Helper()
	m := d.program()
	if e := image.Right(m); e != api.OK {
		t.Fatalf("a program of the dice may not be: %d, %+v", e, m)
	}
	args := make([]uint64, len(m.Gates[0].Args))
	for k := range args {
		args[k] = d.Uint64() >> d.IntN(65)
	}
	inputs := make([]uint64, d.IntN(12))
	for k := range inputs {
		inputs[k] = d.Uint64() >> d.IntN(65)
	}
	return m, args, inputs
}

// tally counts what came about in the runs of all programs.
type tally struct {
	done   map[api.Op]int
	faults map[api.Op]map[api.Fault]int
	ends   map[api.End]int
}

func (c tally) count(m api.Image, before api.Snap, o api.Outcome) {
	code := m.Comps[m.Gates[before.Gate].Comp].Code
	c.ends[o.End]++
	if before.Pc >= len(code) {
		return
	}
	op := code[before.Pc].Op
	if c.faults[op] == nil {
		c.faults[op] = map[api.Fault]int{}
	}
	switch o.End {
	case api.Faulted:
		c.faults[op][o.Fault]++
	case api.Running:
		c.done[op]++
	}
}

// mayFault are the faults that an operation may have.
func mayFault() map[api.Op][]api.Fault {
	l := map[api.Op][]api.Fault{
		api.JC:   {api.FTag, api.FSeal, api.FPerm, api.FBounds, api.FTarget},
		api.CALL: {api.FGate}, api.RET: {api.FGate},
		api.CINC: {api.FTag, api.FInt, api.FSeal}, api.CINCI: {api.FTag, api.FSeal},
		api.CSETB: {api.FTag, api.FInt, api.FSeal, api.FBounds}, api.CSETBI: {api.FTag, api.FSeal, api.FBounds},
		api.CANDP: {api.FTag, api.FSeal}, api.CSEAL: {api.FTag, api.FSeal, api.FPerm, api.FBounds, api.FOtype},
		api.CUNSEAL: {api.FTag, api.FSeal, api.FPerm, api.FOtype},
	}
	for op := api.LB; op <= api.SC; op++ {
		l[op] = []api.Fault{api.FTag, api.FSeal, api.FPerm, api.FBounds}
	}
	for op := api.LC; op <= api.SC; op++ {
		l[op] = append(l[op], api.FAlign)
	}
	return l
}

func (c tally) check(t *testing.T) {
	t.Helper()
	for _, op := range ops() {
		if c.done[op] == 0 && op != api.HALT && op != api.TRAP {
			t.Errorf("7.6: no run went on behind %s: the programs are too narrow", instr.Name(op))
		}
	}
	for op, l := range mayFault() {
		for _, f := range l {
			if c.faults[op][f] == 0 {
				t.Errorf("7.6: no %s had the fault %d: the programs are too narrow", instr.Name(op), f)
			}
		}
	}
	for end := api.Running; end <= api.Faulted; end++ {
		if c.ends[end] == 0 && end != api.Spent {
			t.Errorf("7.6: no run ended %d: the programs are too narrow", end)
		}
	}
}

const longest = 120

// TestStepByStep holds runs of many programs against the model.
func TestStepByStep(t *testing.T) {
	c := tally{map[api.Op]int{}, map[api.Op]map[api.Fault]int{}, map[api.End]int{}}
	for seed := range uint64(6000) {
		m, args, inputs := rolled(seed).right(t)
		x, y := begin(t, m, 0, args, inputs), newModel(m, 0, args, inputs)
		for n := range longest {
			before := x.Snap()
			got, want := x.Step(), y.step()
			c.count(m, before, got)
			if got != want || x.Snap() != y.at {
				t.Fatalf("A run: program %d, step %d: %+v, %+v, want %+v, %+v", seed, n, got, x.Snap(), want, y.at)
			}
			if got.End != api.Running {
				break
			}
		}
		if checkLook(t, "A run: the end of a program", x, y.look()); t.Failed() {
			t.Fatalf("the program %d", seed)
		}
	}
	c.check(t)
}

// TestRunIsSoManySteps: but for Spent.
func TestRunIsSoManySteps(t *testing.T) {
	for seed := range uint64(400) {
		d := rolled(seed)
		m, args, inputs := d.right(t)
		fuel := d.IntN(40)
		x, y := begin(t, m, 0, args, inputs), begin(t, m, 0, args, inputs)
		got := x.Run(fuel)
		want := api.Outcome{Gate: m.Gates[0].Comp, Pc: m.Gates[0].Entry}
		for range fuel {
			want = y.Step()
		}
		if want.End == api.Running {
			want.End = api.Spent
		}
		checkOutcome(t, "7.6: Run and Steps", got, want)
		checkLook(t, "7.6: Run and Steps", x, lookAt(y))
	}
}

// TestByTurns: machines know nothing of one another, be they of one program or of two.
func TestByTurns(t *testing.T) {
	for seed := range uint64(60) {
		d := rolled(seed)
		m, args, inputs := d.right(t)
		other, otherArgs, otherInputs := d.right(t)
		x, y, z := begin(t, m, 0, args, inputs), begin(t, m, 0, args, inputs), begin(t, other, 0, otherArgs, otherInputs)
		alone := begin(t, m, 0, args, inputs)
		alone.Run(longest)
		for range longest {
			z.Step()
			checkOutcome(t, "7.6: two machines by turns", x.Step(), y.Step())
		}
		want := lookAt(alone)
		checkOutcome(t, "7.6: two machines by turns", x.Run(0), alone.Run(0))
		checkLook(t, "7.6: two machines by turns", x, want)
		checkLook(t, "7.6: two machines by turns", y, want)
	}
}

// TestOutputsAndTouchesOfARun: no step has more than one of each, and memory is all that is touched.
func TestOutputsAndTouchesOfARun(t *testing.T) {
	for seed := range uint64(300) {
		m, args, inputs := rolled(seed).right(t)
		x := begin(t, m, 0, args, inputs)
		for range longest {
			out, touches := len(x.Out()), len(x.Touches())
			if x.Step(); len(x.Out()) > out+1 || len(x.Touches()) > touches+1 {
				t.Fatalf("7.6: a step of the program %d put out %v, touched %v", seed, x.Out()[out:], x.Touches()[touches:])
			}
		}
		for _, p := range x.Touches() {
			if p.Addr >= api.MaxMem || p.Size > api.MaxMem-p.Addr {
				t.Errorf("7.6: touched %+v", p)
			}
		}
	}
}

// TestWhatCallsLeave: behind a CALL all registers are the arguments, the roots and 0; behind its RET all but the results are as they were.
func TestWhatCallsLeave(t *testing.T) {
	calls, returns := 0, 0
	for seed := range uint64(4000) {
		m, args, inputs := rolled(seed).right(t)
		x := begin(t, m, 0, args, inputs)
		var callers []api.Snap
		for range longest {
			before := x.Snap()
			x.Step()
			now := x.Snap()
			switch now.Depth - before.Depth {
			case 1:
				calls++
				callers = append(callers, before)
				checkInside(t, m, before, now)
			case -1:
				returns++
				caller := callers[len(callers)-1]
				callers = callers[:len(callers)-1]
				checkBack(t, m, caller, before, now)
			}
		}
	}
	if calls < 100 || returns < 100 {
		t.Errorf("7.6: %d calls, %d returns: the programs are too narrow", calls, returns)
	}
}

func checkInside(t *testing.T, m api.Image, before, now api.Snap) {
	t.Helper()
	g := m.Gates[now.Gate]
	want := api.Snap{Gate: now.Gate, Pc: g.Entry, Depth: before.Depth + 1}
	copy(want.Regs[1:], before.Regs[1:1+len(g.Args)])
	for _, r := range m.Comps[g.Comp].Roots {
		want.Regs[r.Reg] = holding(r.Cap)
	}
	if now != want {
		t.Errorf("7.6: behind a CALL %+v, want %+v", now, want)
	}
}

func checkBack(t *testing.T, m api.Image, caller, before, now api.Snap) {
	t.Helper()
	want := caller
	want.Pc++
	copy(want.Regs[1:], before.Regs[1:1+len(m.Gates[before.Gate].Results)])
	if now != want {
		t.Errorf("7.6: behind a RET %+v, want %+v", now, want)
	}
}

// TestManyMachines: many machines of one program at once, each by itself.
func TestManyMachines(t *testing.T) {
	m, args, inputs := rolled(3).right(t)
	want := begin(t, m, 0, args, inputs)
	want.Run(longest)
	l := make([]*capmachine.Machine, 20)
	for k := range l {
		l[k] = begin(t, m, 0, args, inputs)
	}
	for range longest {
		for k, x := range l {
			if k%2 == 0 {
				x.Step()
			} else {
				x.Run(longest)
			}
		}
	}
	for _, x := range l {
		x.Run(0)
		checkLook(t, "7.6: many machines", x, lookAt(want))
	}
}
