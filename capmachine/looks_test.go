package capmachine_test

import (
	"slices"
	"testing"

	"paddock/api"
	"paddock/capmachine"
	"paddock/tagmem"
)

func TestSnap(t *testing.T) {
	x := at(t, house(t, "li r4 8 / call inner / halt r1", "li r1 3 / ret", "0 int -> int"), 0, 5, 6, 7)
	x.Step()
	x.Step()
	want := api.Snap{Gate: 1, Depth: 1, Regs: entered(integer(5))}
	if got := x.Snap(); got != want {
		t.Errorf("7.5: Snap: %+v, want %+v", got, want)
	}
	s := x.Snap()
	fill(s.Regs[:], integer(99))
	if got := x.Snap(); got != want {
		t.Errorf("7.5: a Snap was written over: %+v, want %+v", got, want)
	}
}

func TestOutAndTouches(t *testing.T) {
	x := begin(t, inYard(t, "sw r1 r8 3", "out r1", "lc r5 r9 16", "sc r5 r9 0", "out r2", "lb r4 r8 0", "sb r3 r8 1", "lw r4 r9 0", "out r1", "halt r0"), 0, []uint64{5, 6, 7}, nil)
	if len(x.Out()) != 0 || len(x.Touches()) != 0 {
		t.Errorf("7.5: at the beginning: %v, %v", x.Out(), x.Touches())
	}
	x.Run(50)
	if got, want := x.Out(), []uint64{5, 6, 5}; !slices.Equal(got, want) {
		t.Errorf("7.5: Out: %v, want %v", got, want)
	}
	want := []api.Touch{{Store: true, Addr: 7, Size: 8}, {Addr: 80, Size: 16}, {Store: true, Addr: 64, Size: 16}, {Addr: 4, Size: 1}, {Store: true, Addr: 5, Size: 1}, {Addr: 64, Size: 8}}
	if got := x.Touches(); !slices.Equal(got, want) {
		t.Errorf("7.5: Touches: %+v, want %+v", got, want)
	}
}

// whole is a list with its spare room.
func whole[T any](l []T) []T { return l[:cap(l)] }

// TestListsThatCameOut: they are their caller's, spare room too; the machine goes on without them.
func TestListsThatCameOut(t *testing.T) {
	code := []string{"out r1", "sb r1 r8 0", "addi r1 r1 1", "jmp 0"}
	x, y := begin(t, inYard(t, code...), 0, []uint64{1, 0, 0}, nil), begin(t, inYard(t, code...), 0, []uint64{1, 0, 0}, nil)
	var outs [][]uint64
	var touches [][]api.Touch
	for n := range 200 {
		fill(whole(x.Out()), 1000)
		fill(whole(x.Touches()), api.Touch{Store: true, Addr: 1000, Size: 1000})
		if n%4 == 2 {
			outs, touches = append(outs, x.Out()), append(touches, x.Touches())
		}
		x.Step()
		y.Step()
		checkLook(t, "7.5: lists written over by their owner", x, lookAt(y))
	}
	for n, l := range outs {
		if len(l) != n+1 || len(touches[n]) != n+1 || l[n] != uint64(n+1) || touches[n][n] != (api.Touch{Store: true, Addr: 4, Size: 1}) {
			t.Fatalf("7.5: a list of before has become %v, %v", l, touches[n])
		}
	}
}

func TestMemoryIsTheMachines(t *testing.T) {
	x := begin(t, inYard(t, "sb r1 r8 0", "lb r4 r8 1", "lc r5 r9 0", "lc r6 r9 16", "sc r8 r9 32", "halt r4"), 0, []uint64{200, 0, 0}, nil)
	mem := x.Memory()
	x.Step()
	if n, _ := mem.Load(4, 1); n != 200 || x.Memory() != mem {
		t.Errorf("7.5: Memory has %d, want what the machine stored", n)
	}
	// Between two steps its owner writes into it.
	mem.Store(5, 1, 99)
	mem.StoreCap(64, holding(key))
	mem.Store(80, 1, 7)
	x.Step()
	x.Step()
	x.Step()
	s := x.Snap()
	if s.Regs[4] != integer(99) || s.Regs[5] != holding(key) || s.Regs[6] != integer(7) {
		t.Errorf("7.5: the machine reads %+v", s.Regs[4:7])
	}
	mem.Store(96, 8, 3)
	x.Step()
	if !slices.Equal(mem.Tags(), []uint64{64, 96}) {
		t.Errorf("7.5: Tags of the memory: %v", mem.Tags())
	}
	checkOutcome(t, "7.5", x.Step(), api.Outcome{End: api.Halted, Value: 99, Pc: 5})
	// Behind the end as well.
	mem.Store(5, 1, 98)
	if n, _ := x.Memory().Load(5, 1); n != 98 {
		t.Errorf("7.5: behind the end Memory has %d", n)
	}
	if len(x.Touches()) != 5 {
		t.Errorf("7.5: what its owner does with memory is no touch: %+v", x.Touches())
	}
}

// TestValuesAreClean: what of a value is not meant is nothing in a register, whatever was laid into memory.
func TestValuesAreClean(t *testing.T) {
	x := begin(t, inYard(t, "lc r4 r9 0", "lc r5 r9 16", "csame r6 r4 r8", "halt r0"), 0, []uint64{0, 0, 0}, nil)
	x.Memory().StoreCap(64, api.Value{Tag: true, N: 55, C: inBytes})
	x.Memory().StoreCap(80, api.Value{N: 66, C: inBytes})
	x.Run(9)
	s := x.Snap()
	if s.Regs[4] != holding(inBytes) || s.Regs[5] != integer(66) || s.Regs[6] != integer(1) {
		t.Errorf("7.3: registers %+v", s.Regs[4:7])
	}
}

// TestOddCapabilities: one that is not rightly built can come from Memory's owner alone; it is asked as it is.
func TestOddCapabilities(t *testing.T) {
	odd := api.Cap{Base: top, End: 3, Cursor: 9, Perms: 255, Seal: -1}
	x := begin(t, inYard(t, "lc r4 r9 0", "cbase r1 r4", "cend r2 r4", "caddr r3 r4", "cperm r5 r4", "csealed r6 r4", "gperm r4 rwcdxsu 1", "sc r4 r9 16", "lc r7 r9 16", "csame r0 r4 r7", "cunseal r1 r4 r10"), 0, []uint64{0, 0, 0}, nil)
	x.Memory().StoreCap(64, holding(odd))
	checkOutcome(t, "7.5", x.Run(99), api.Outcome{End: api.Faulted, Fault: api.FOtype, Pc: 10})
	for r, n := range map[int]uint64{0: 1, 1: top, 2: 3, 3: 9, 5: 255, 6: top} {
		if got := x.Snap().Regs[r]; got != integer(n) {
			t.Errorf("7.5: r%d is %+v, want %d", r, got, n)
		}
	}
	if got := x.Snap().Regs[7]; got != holding(odd) {
		t.Errorf("7.5: r7 is %+v", got)
	}
}

func TestNil(t *testing.T) {
	var none *capmachine.Machine
	for range 2 {
		checkOutcome(t, "a nil machine: Step", none.Step(), api.Outcome{})
		for _, fuel := range []int{-1, 0, 1, 1 << 40} {
			checkOutcome(t, "a nil machine: Run", none.Run(fuel), api.Outcome{})
		}
		var mem *tagmem.Tagged
		if none.Snap() != (api.Snap{}) || none.Out() != nil || none.Touches() != nil || none.Memory() != mem {
			t.Errorf("a nil machine: %+v, %v, %v, %v", none.Snap(), none.Out(), none.Touches(), none.Memory())
		}
	}
}
