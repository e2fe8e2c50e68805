package capmachine_test

import (
	"strconv"
	"testing"

	"paddock/api"
)

// ended is an instruction of the yard at which the run is over without a fault.
type ended struct {
	ahead string
	inst  string
	args  [3]uint64
	end   api.End
	value uint64
}

func checkAllEnded(t *testing.T, l []ended) {
	t.Helper()
	for _, c := range l {
		ahead := lines(c.ahead)
		x := begin(t, inYard(t, append(append(ahead, c.inst), "trap 1")...), 0, c.args[:], []uint64{77})
		toThe(t, x, len(ahead))
		checkEnd(t, c.inst+" behind "+c.ahead, x, api.Outcome{End: c.end, Value: c.value})
	}
}

// busy is what leaves its traces everywhere: in registers, in memory, in what was put out and touched.
const busy = "in r4 / out r4 / sw r4 r8 2 / sc r8 r9 32 / lc r5 r9 16 / out r1 / add r6 r4 r1"

func TestHaltAndTrap(t *testing.T) {
	checkAllEnded(t, []ended{
		{inst: "halt r1", args: nums{5}, end: api.Halted, value: 5},
		{inst: "halt r0", end: api.Halted},
		{ahead: busy, inst: "halt r2", args: nums{1, top}, end: api.Halted, value: top},
		{inst: "trap 0", end: api.Trapped},
		{ahead: busy, inst: "trap 255", end: api.Trapped, value: 255},
		{inst: "trap 7", args: nums{1, 2, 3}, end: api.Trapped, value: 7},
	})
}

func TestInputsThatAreUsedUp(t *testing.T) {
	checkAllEnded(t, []ended{
		{ahead: "in r4", inst: "in r4", end: api.Starved},
		{ahead: busy, inst: "in r8", end: api.Starved},
	})
	for _, inputs := range [][]uint64{nil, {}} {
		x := begin(t, inYard(t, "in r1"), 0, []uint64{5, 6, 7}, inputs)
		checkEnd(t, "no inputs", x, api.Outcome{End: api.Starved})
	}
}

func TestGuardsThatDoNotHold(t *testing.T) {
	checkAllEnded(t, []ended{
		{inst: "glt r1 5 9", args: nums{5}, end: api.Guarded, value: 9},
		{inst: "glt r1 0 0", end: api.Guarded},
		{inst: "glt r1 2147483647 255", args: nums{top}, end: api.Guarded, value: 255},
		{inst: "glt r1 2147483647 9", args: nums{1 << 63}, end: api.Guarded, value: 9},
		{inst: "gge r1 5 9", args: nums{4}, end: api.Guarded, value: 9},
		{inst: "gge r1 2147483647 9", args: nums{2147483646}, end: api.Guarded, value: 9},
		{ahead: busy, inst: "gtag r1 4", args: nums{4}, end: api.Guarded, value: 4},
		{inst: "gin r8 29 3", end: api.Guarded, value: 3},
		{inst: "gin r15 0 3", end: api.Guarded, value: 3},
		{inst: "gin r11 0 3", end: api.Guarded, value: 3},
		{inst: "gin r11 28 3", end: api.Guarded, value: 3},
		{ahead: "cinci r4 r8 -5", inst: "gin r4 0 3", end: api.Guarded, value: 3},
		{ahead: "cinci r4 r9 -1", inst: "gin r4 0 3", end: api.Guarded, value: 3},
		{inst: "gperm r8 rc 8", end: api.Guarded, value: 8},
		{inst: "gperm r8 rwcdxsu 8", end: api.Guarded, value: 8},
		{inst: "gperm r13 r 8", end: api.Guarded, value: 8},
		{inst: "gperm r11 s 8", end: api.Guarded, value: 8},
		{inst: "gseal r8 5 2", end: api.Guarded, value: 2},
		{inst: "gseal r11 0 2", end: api.Guarded, value: 2},
		{inst: "gseal r11 4 2", end: api.Guarded, value: 2},
	})
}

// TestCodeOfGuards: the code is C, whatever the guard's number.
func TestCodeOfGuards(t *testing.T) {
	for _, code := range []uint64{0, 1, 128, 255} {
		c := " " + strconv.FormatUint(code, 10)
		for _, inst := range []string{"glt r1 0", "gge r1 3", "gtag r1", "gin r8 40", "gperm r8 x", "gseal r8 1"} {
			checkAllEnded(t, []ended{{inst: inst + c, end: api.Guarded, value: code}})
		}
	}
}

// TestBehindTheCode: the instruction at hand may be one that is not there.
func TestBehindTheCode(t *testing.T) {
	for _, c := range []struct {
		code []string
		at   int
	}{
		{[]string{"li r4 1"}, 1},
		{lines(busy), 7},
		{[]string{"jmp 1", "out r1"}, 2},
		{[]string{"cpc r4 2", "jc r4", "gtag r8 1"}, 3},
		{[]string{"beq r1 r2 0", "bne r1 r3 0"}, 2},
	} {
		x := begin(t, inYard(t, c.code...), 0, []uint64{1, 2, 1}, []uint64{77})
		toThe(t, x, c.at)
		checkEnd(t, "behind the code", x, api.Outcome{End: api.Faulted, Fault: api.FTarget})
	}
}

// TestFaultsLeaveTraces: with a fault all stays that was done ahead of it.
func TestFaultsLeaveTraces(t *testing.T) {
	for inst, fault := range map[string]api.Fault{
		"sw r8 r9 0": api.FInt, "sc r4 r1 0": api.FTag, "lb r1 r11 0": api.FSeal, "lc r1 r8 0": api.FPerm, "sw r1 r9 41": api.FBounds, "cseal r1 r9 r5": api.FPerm, "sc r9 r9 4": api.FAlign, "sw r1 r12 65530": api.FBounds, "out r9": api.FInt, "jc r8": api.FPerm,
	} {
		checkWrong(t, wrong{ahead: busy, inst: inst, fault: fault})
	}
}
