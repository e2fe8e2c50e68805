package capmachine_test

import (
	"testing"

	"paddock/api"
	"paddock/capmachine"
)

// wrong is an instruction of the yard that has a fault.
type wrong struct {
	ahead string
	inst  string
	args  [3]uint64
	fault api.Fault
}

// checkEnd does the step with which a run is to end, and asks whether all else stayed as it was.
func checkEnd(t *testing.T, what string, x *capmachine.Machine, want api.Outcome) {
	t.Helper()
	before := lookAt(x)
	want.Gate, want.Pc = before.snap.Gate, before.snap.Pc
	checkOutcome(t, "7.2: "+what, x.Step(), want)
	checkLook(t, "7.3: "+what+", what stays", x, before)
	checkOver(t, what, x, want)
}

func checkWrong(t *testing.T, c wrong) {
	t.Helper()
	ahead := lines(c.ahead)
	code := append(append(ahead, c.inst), "trap 1", "trap 2", "trap 3")
	x := begin(t, inYard(t, code...), 0, c.args[:], []uint64{77, 78})
	toThe(t, x, len(ahead))
	checkEnd(t, c.inst+" behind "+c.ahead, x, api.Outcome{End: api.Faulted, Fault: c.fault})
}

func checkAllWrong(t *testing.T, fault api.Fault, l ...string) {
	t.Helper()
	for _, inst := range l {
		checkWrong(t, wrong{inst: inst, args: nums{2, 3, 4}, fault: fault})
	}
}

func checkWrongBehind(t *testing.T, ahead string, fault api.Fault, l ...string) {
	t.Helper()
	for _, inst := range l {
		checkWrong(t, wrong{ahead: ahead, inst: inst, fault: fault})
	}
}

func TestIntegersThatAreNone(t *testing.T) {
	for _, op := range []string{"add", "sub", "mul", "and", "or", "xor", "shl", "shr", "slt", "seq"} {
		checkAllWrong(t, api.FInt, op+" r1 r8 r1", op+" r1 r1 r8", op+" r1 r8 r8")
	}
	for _, op := range []string{"beq", "bne", "blt", "bge"} {
		checkAllWrong(t, api.FInt, op+" r8 r1 0", op+" r1 r8 0", op+" r8 r8 0")
	}
	checkAllWrong(t, api.FInt, "addi r1 r8 1", "halt r8", "out r8", "sb r8 r8 0", "sw r8 r8 0", "glt r8 5 9", "gge r8 0 9", "cinc r4 r8 r9", "csetb r4 r8 r9")
}

func TestCapabilitiesThatAreNone(t *testing.T) {
	checkAllWrong(t, api.FTag, "jc r1", "cinc r4 r1 r2", "cinci r4 r1 0", "csetb r4 r1 r2", "csetbi r4 r1 0", "candp r4 r1 -", "cseal r4 r1 r10", "cseal r4 r8 r1", "cunseal r4 r1 r10", "cunseal r4 r11 r1")
	checkAllWrong(t, api.FTag, "caddr r4 r1", "cbase r4 r1", "cend r4 r1", "cperm r4 r1", "csealed r4 r1")
	checkAllWrong(t, api.FTag, "lb r4 r1 0", "lw r4 r1 0", "sb r1 r1 0", "sw r1 r1 0", "lc r4 r1 0", "sc r8 r1 0", "sc r1 r1 0")
	checkAllWrong(t, api.FTag, "gin r1 0 9", "gperm r1 - 9", "gseal r1 0 9")
}

func TestOperandsInTheirOrder(t *testing.T) {
	checkAllWrong(t, api.FInt, "sb r8 r1 0", "sw r8 r1 0")
	checkAllWrong(t, api.FTag, "cinc r4 r1 r8", "csetb r4 r1 r8", "cseal r4 r1 r1", "cunseal r4 r1 r1")
}

func TestNeedsAheadOfOtherFaults(t *testing.T) {
	checkAllWrong(t, api.FInt, "cinc r4 r11 r8", "csetb r4 r11 r8", "csetb r4 r15 r8", "sb r8 r11 0", "sw r8 r13 0", "sb r8 r8 100")
	checkAllWrong(t, api.FTag, "cseal r4 r11 r1", "cunseal r4 r8 r1")
}

func TestFaultsOfJC(t *testing.T) {
	checkAllWrong(t, api.FSeal, "jc r11", "jc r14")
	checkAllWrong(t, api.FPerm, "jc r8", "jc r12", "jc r15")
	checkWrongBehind(t, "cpc r4 0 / cseal r4 r4 r10", api.FSeal, "jc r4")
	checkWrongBehind(t, "cpc r4 0 / cinci r4 r4 1 / cseal r4 r4 r10", api.FSeal, "jc r4")
	checkWrongBehind(t, "cpc r4 0 / candp r4 r4 rwcdsu", api.FPerm, "jc r4")
	checkWrongBehind(t, "cpc r4 0 / candp r4 r4 - / cinci r4 r4 -1", api.FPerm, "jc r4")
	// There are six instructions here: their code has 48 bytes.
	for _, off := range []string{"-1", "-8", "41", "44", "47", "48", "400"} {
		checkWrongBehind(t, "cpc r4 0 / cinci r4 r4 "+off, api.FBounds, "jc r4")
	}
	for _, off := range []string{"1", "4", "7", "9", "39"} {
		checkWrongBehind(t, "cpc r4 0 / cinci r4 r4 "+off, api.FTarget, "jc r4")
	}
	checkWrongBehind(t, "cpc r4 1 / csetbi r4 r4 7", api.FBounds, "jc r4")
	checkWrongBehind(t, "cpc r4 1 / csetbi r4 r4 0", api.FBounds, "jc r4")
}

// TestJCOfOthers: into memory a capability can be laid that no instruction makes.
func TestJCOfOthers(t *testing.T) {
	wide := api.Cap{End: 1 << 32, Perms: api.Exec}
	for _, c := range []struct {
		cap  api.Cap
		want api.Outcome
	}{
		{pointing(wide, 1<<20), api.Outcome{}},
		{pointing(wide, 1<<20+16), api.Outcome{Pc: 2}},
		{pointing(wide, 1<<20+32), api.Outcome{Pc: 4}},
		{pointing(wide, 1<<20+40), api.Outcome{End: api.Faulted, Fault: api.FTarget, Pc: 1}},
		{pointing(wide, 1<<20+33), api.Outcome{End: api.Faulted, Fault: api.FTarget, Pc: 1}},
		{pointing(wide, 1<<20-8), api.Outcome{End: api.Faulted, Fault: api.FTarget, Pc: 1}},
		{pointing(wide, 0), api.Outcome{End: api.Faulted, Fault: api.FTarget, Pc: 1}},
		{pointing(wide, 1<<20+1<<16), api.Outcome{End: api.Faulted, Fault: api.FTarget, Pc: 1}},
		{pointing(wide, 1<<32-8), api.Outcome{End: api.Faulted, Fault: api.FTarget, Pc: 1}},
		{pointing(wide, 1<<32-7), api.Outcome{End: api.Faulted, Fault: api.FBounds, Pc: 1}},
		{bounded(pointing(wide, top-15), 0, top), api.Outcome{End: api.Faulted, Fault: api.FTarget, Pc: 1}},
		{bounded(pointing(wide, top-6), 0, top), api.Outcome{End: api.Faulted, Fault: api.FBounds, Pc: 1}},
		{bounded(pointing(wide, 1<<20), top, 0), api.Outcome{End: api.Faulted, Fault: api.FBounds, Pc: 1}},
		{sealed(pointing(wide, 1<<20), -1), api.Outcome{End: api.Faulted, Fault: api.FSeal, Pc: 1}},
		{permitted(pointing(wide, 1<<20+8*3), 255), api.Outcome{Pc: 3}},
	} {
		x := begin(t, inYard(t, "lc r4 r9 0", "jc r4", "trap 1", "trap 2", "trap 3"), 0, []uint64{0, 0, 0}, nil)
		x.Memory().StoreCap(64, holding(c.cap))
		toThe(t, x, 1)
		checkOutcome(t, "A run, JC", x.Step(), c.want)
	}
}

func TestFaultsOfMadeCapabilities(t *testing.T) {
	checkAllWrong(t, api.FSeal, "cinc r4 r11 r1", "cinci r4 r11 0", "csetb r4 r11 r1", "csetbi r4 r11 100", "candp r4 r11 -", "cseal r4 r11 r10", "cseal r4 r8 r14", "cseal r4 r11 r8", "cunseal r4 r8 r10", "cunseal r4 r8 r8", "cunseal r4 r11 r14", "cunseal r4 r11 r11")
	checkAllWrong(t, api.FBounds, "csetb r4 r15 r1", "csetbi r4 r15 0", "csetbi r4 r8 29", "csetbi r4 r9 65536")
	checkAllWrong(t, api.FPerm, "cseal r4 r8 r8", "cseal r4 r8 r15", "cunseal r4 r11 r8")
	checkWrong(t, wrong{inst: "csetb r4 r8 r1", args: nums{29}, fault: api.FBounds})
	checkWrong(t, wrong{inst: "csetb r4 r8 r1", args: nums{top}, fault: api.FBounds})
	checkWrongBehind(t, "cinci r5 r10 3", api.FBounds, "cseal r4 r8 r5", "cunseal r4 r11 r5")
	checkWrongBehind(t, "candp r5 r10 u", api.FPerm, "cseal r4 r8 r5")
	checkWrongBehind(t, "candp r5 r10 s", api.FPerm, "cunseal r4 r11 r5")
	checkWrongBehind(t, "cinci r5 r10 1", api.FOtype, "cunseal r4 r11 r5")
}

// TestSealsThatAreNone: a key may point, within its bounds, to numbers that are no seals.
func TestSealsThatAreNone(t *testing.T) {
	for cursor, fault := range map[string]api.Fault{"0": api.FOtype, "1": api.NoFault, "15": api.NoFault, "16": api.FOtype, "99": api.FOtype, "100": api.FBounds} {
		m := parsed(t, "depth 1\ncomp\nroot r8 0 100 "+cursor+" s 0\ncseal r1 r8 r8\nhalt r0\ngate main 0 0 ->\n")
		want := api.Outcome{Pc: 1}
		if fault != api.NoFault {
			want = api.Outcome{End: api.Faulted, Fault: fault}
		}
		checkOutcome(t, "A run, CSEAL by "+cursor, begin(t, m, 0, nil, nil).Step(), want)
	}
}

func TestFaultsOfLoads(t *testing.T) {
	checkAllWrong(t, api.FSeal, "lb r4 r11 0", "lw r4 r11 100", "lc r4 r11 0")
	checkAllWrong(t, api.FPerm, "lb r4 r13 0", "lw r4 r13 100", "lc r4 r8 0", "lc r4 r8 12", "lb r4 r10 0", "lc r4 r15 0")
	checkAllWrong(t, api.FBounds, "lb r4 r8 28", "lb r4 r8 -5", "lw r4 r8 21", "lw r4 r8 28", "lw r4 r8 -5", "lb r4 r15 0", "lw r4 r15 -15", "lc r4 r9 -16", "lc r4 r9 48", "lc r4 r9 40", "lc r4 r9 33", "lb r4 r12 -1")
	checkAllWrong(t, api.FAlign, "lc r4 r9 1", "lc r4 r9 8", "lc r4 r9 15", "lc r4 r9 31")
	checkWrongBehind(t, "candp r5 r9 wcd", api.FPerm, "lb r4 r5 0", "lw r4 r5 0")
	checkWrongBehind(t, "candp r5 r9 rwd", api.FPerm, "lc r4 r5 0", "lc r4 r5 1", "lc r4 r5 100")
}

func TestFaultsOfStores(t *testing.T) {
	checkAllWrong(t, api.FSeal, "sb r1 r11 0", "sw r1 r11 100", "sc r8 r11 0")
	checkAllWrong(t, api.FPerm, "sb r1 r13 0", "sw r1 r13 100", "sc r8 r8 0", "sc r1 r8 12", "sc r1 r15 0")
	checkAllWrong(t, api.FBounds, "sb r1 r8 28", "sb r1 r8 -5", "sw r1 r8 21", "sw r1 r8 28", "sw r1 r8 -5", "sc r8 r9 -16", "sc r8 r9 48", "sc r1 r9 40", "sb r1 r12 -1")
	checkAllWrong(t, api.FAlign, "sc r8 r9 1", "sc r8 r9 8", "sc r1 r9 15")
	checkWrongBehind(t, "candp r5 r9 rcd", api.FPerm, "sb r1 r5 0", "sw r1 r5 0")
	checkWrongBehind(t, "candp r5 r9 rwc", api.FPerm, "sc r8 r5 0", "sc r8 r5 1", "sc r8 r5 100")
}

// TestBeyondMemory: r12's bounds go far beyond memory, which has 65536 bytes.
func TestBeyondMemory(t *testing.T) {
	for _, l := range []string{"lb r4 r12 ", "sb r1 r12 "} {
		checkAllWrong(t, api.FBounds, l+"65536", l+"65537", l+"2147483647")
	}
	for _, l := range []string{"lw r4 r12 ", "sw r1 r12 "} {
		checkAllWrong(t, api.FBounds, l+"65529", l+"65532", l+"65535", l+"65536", l+"2147483647")
	}
	for _, l := range []string{"lc r4 r12 ", "sc r8 r12 ", "sc r1 r12 "} {
		checkAllWrong(t, api.FBounds, l+"65536", l+"65552", l+"2147483632")
		checkAllWrong(t, api.FAlign, l+"65521", l+"65528", l+"65535", l+"65537", l+"2147483647")
	}
}

// TestWhatGoesRound: a capability may be laid into memory that may be used for addresses at the very end of numbers.
func TestWhatGoesRound(t *testing.T) {
	all := api.Cap{End: top, Cursor: top - 15, Perms: api.AllPerms}
	for _, c := range []struct {
		cap   api.Cap
		inst  string
		fault api.Fault
	}{
		{all, "lb r5 r4 0", api.FBounds}, {all, "lw r5 r4 0", api.FBounds}, {all, "lw r5 r4 8", api.FBounds},
		{all, "lc r5 r4 -16", api.FBounds}, {all, "sc r8 r4 -16", api.FBounds}, {all, "lc r5 r4 -17", api.FAlign},
		{all, "sb r1 r4 0", api.FBounds}, {all, "sw r1 r4 0", api.FBounds},
		{all, "lb r5 r4 16", api.NoFault}, {all, "lb r5 r4 20", api.NoFault}, {all, "lc r5 r4 16", api.NoFault}, {all, "sw r1 r4 32", api.NoFault},
		{bounded(all, top, 0), "lb r5 r4 16", api.FBounds}, {bounded(all, 16, 0), "sb r1 r4 16", api.FBounds},
		{sealed(all, -3), "lb r5 r4 16", api.FSeal},
	} {
		x := begin(t, inYard(t, "lc r4 r9 0", c.inst, "trap 1"), 0, []uint64{0, 0, 0}, nil)
		x.Memory().StoreCap(64, holding(c.cap))
		toThe(t, x, 1)
		want := api.Outcome{Pc: 2}
		if c.fault != api.NoFault {
			want = api.Outcome{End: api.Faulted, Fault: c.fault, Pc: 1}
		}
		checkOutcome(t, "7.3: "+c.inst, x.Step(), want)
	}
}
