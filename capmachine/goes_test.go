package capmachine_test

import (
	"testing"

	"paddock/api"
)

// effect is what a step changes.
type effect func(l *look)

func laid(reg int, v api.Value) effect {
	return func(l *look) { l.snap.Regs[reg] = v }
}

func laidNumber(reg int, n uint64) effect { return laid(reg, integer(n)) }

func laidCap(reg int, c api.Cap) effect { return laid(reg, holding(c)) }

func goneTo(pc int) effect {
	return func(l *look) { l.snap.Pc = pc }
}

func putOut(n uint64) effect {
	return func(l *look) { l.out = append(l.out, n) }
}

func loaded(addr, size uint64) effect {
	return func(l *look) { l.touches = append(l.touches, api.Touch{Addr: addr, Size: size}) }
}

// stored is a store of bytes, which takes the tags away of where it writes.
func stored(addr uint64, bytes string) effect {
	return func(l *look) {
		l.touches = append(l.touches, api.Touch{Store: true, Addr: addr, Size: uint64(len(bytes))})
		l.bytes = l.bytes[:addr] + bytes + l.bytes[int(addr)+len(bytes):]
		for at := range l.caps {
			if at < addr+uint64(len(bytes)) && addr < at+api.Granule {
				delete(l.caps, at)
			}
		}
	}
}

func tagged(addr uint64, c api.Cap) effect {
	return func(l *look) { l.caps[addr] = c }
}

// going is an instruction with which the run goes on.
type going struct {
	ahead string // what stands ahead of it
	inst  string
	args  [3]uint64
	want  []effect
}

// checkGoing does the step, and holds all that can be seen against what was and what the step changes. Behind the instruction stand three others.
func checkGoing(t *testing.T, c going) {
	t.Helper()
	ahead := lines(c.ahead)
	code := append(append(ahead, c.inst), "trap 1", "trap 2", "trap 3")
	x := begin(t, inYard(t, code...), 0, c.args[:], []uint64{77, 78})
	toThe(t, x, len(ahead))
	want := lookAt(x)
	want.snap.Pc++
	for _, e := range c.want {
		e(&want)
	}
	what := "A run: " + c.inst + " behind " + c.ahead
	checkOutcome(t, "7.2: "+what, x.Step(), api.Outcome{Pc: want.snap.Pc})
	checkLook(t, what, x, want)
}

func checkAllGoing(t *testing.T, l []going) {
	t.Helper()
	for _, c := range l {
		checkGoing(t, c)
	}
}

func does(inst string, args [3]uint64, want ...effect) going {
	return going{inst: inst, args: args, want: want}
}

func behind(ahead, inst string, want ...effect) going {
	return going{ahead: ahead, inst: inst, want: want}
}

type nums = [3]uint64

func TestNumbers(t *testing.T) {
	checkAllGoing(t, []going{
		does("li r4 5", nums{}, laidNumber(4, 5)),
		does("li r4 -1", nums{}, laidNumber(4, top)),
		does("li r4 -2147483648", nums{}, laidNumber(4, top-1<<31+1)),
		does("li r8 2147483647", nums{}, laidNumber(8, 1<<31-1)),
		does("li r0 3", nums{}, laidNumber(0, 3)),
		does("mov r4 r1", nums{top}, laidNumber(4, top)),
		does("mov r4 r8", nums{}, laidCap(4, inBytes)),
		does("mov r8 r11", nums{}, laidCap(8, closed)),
		does("mov r8 r1", nums{6}, laidNumber(8, 6)),
		does("mov r2 r2", nums{1, 2, 3}),
		does("add r4 r1 r2", nums{2, 3}, laidNumber(4, 5)),
		does("add r1 r1 r1", nums{1 << 63}, laidNumber(1, 0)),
		does("add r4 r1 r2", nums{top, 2}, laidNumber(4, 1)),
		does("add r8 r1 r2", nums{2, 3}, laidNumber(8, 5)),
		does("sub r4 r1 r2", nums{9, 2}, laidNumber(4, 7)),
		does("sub r4 r1 r2", nums{2, 3}, laidNumber(4, top)),
		does("mul r4 r1 r2", nums{6, 7}, laidNumber(4, 42)),
		does("mul r4 r1 r2", nums{top, top}, laidNumber(4, 1)),
		does("mul r4 r1 r2", nums{1 << 32, 1 << 32}, laidNumber(4, 0)),
		does("and r4 r1 r2", nums{12, 10}, laidNumber(4, 8)),
		does("or r4 r1 r2", nums{12, 10}, laidNumber(4, 14)),
		does("xor r4 r1 r2", nums{12, 10}, laidNumber(4, 6)),
		does("shl r4 r1 r2", nums{3, 1}, laidNumber(4, 6)),
		does("shl r4 r1 r2", nums{3, 63}, laidNumber(4, 1<<63)),
		does("shl r4 r1 r2", nums{3, 64}, laidNumber(4, 3)),
		does("shl r4 r1 r2", nums{3, top - 62}, laidNumber(4, 6)),
		does("shr r4 r1 r2", nums{top, 63}, laidNumber(4, 1)),
		does("shr r4 r1 r2", nums{6, 64}, laidNumber(4, 6)),
		does("shr r4 r1 r2", nums{6, 1 << 40}, laidNumber(4, 6)),
		does("shr r4 r1 r2", nums{6, 65}, laidNumber(4, 3)),
		does("addi r4 r1 5", nums{3}, laidNumber(4, 8)),
		does("addi r4 r1 -5", nums{3}, laidNumber(4, top-1)),
		does("addi r1 r1 1", nums{top}, laidNumber(1, 0)),
		does("slt r4 r1 r2", nums{1, top}, laidNumber(4, 1)),
		does("slt r4 r1 r2", nums{top, 1}, laidNumber(4, 0)),
		does("slt r4 r1 r2", nums{2, 2}, laidNumber(4, 0)),
		does("seq r4 r1 r2", nums{2, 2}, laidNumber(4, 1)),
		does("seq r4 r1 r2", nums{2, 3}, laidNumber(4, 0)),
		does("seq r4 r1 r2", nums{3, 2}, laidNumber(4, 0)),
	})
}

func TestJumps(t *testing.T) {
	checkAllGoing(t, []going{
		does("jmp 2", nums{}, goneTo(2)),
		does("jmp 0", nums{}, goneTo(0)),
		behind("li r4 1 / li r4 2", "jmp 1", goneTo(1)),
		does("beq r1 r2 3", nums{top, top}, goneTo(3)),
		does("beq r1 r2 3", nums{4, 5}),
		does("beq r1 r2 3", nums{5, 4}),
		does("bne r1 r2 3", nums{4, 5}, goneTo(3)),
		does("bne r1 r2 3", nums{5, 4}, goneTo(3)),
		does("bne r1 r2 3", nums{4, 4}),
		does("blt r1 r2 3", nums{4, 5}, goneTo(3)),
		does("blt r1 r2 3", nums{4, top}, goneTo(3)),
		does("blt r1 r2 3", nums{4, 4}),
		does("blt r1 r2 3", nums{top, 4}),
		does("bge r1 r2 3", nums{4, 4}, goneTo(3)),
		does("bge r1 r2 3", nums{top, 4}, goneTo(3)),
		does("bge r1 r2 3", nums{4, 5}),
		does("bge r1 r2 3", nums{4, top}),
		does("beq r1 r1 0", nums{}, goneTo(0)),
	})
}

// code is the capability of an instruction of the first compartment, of so many.
func code(pc, of uint64) api.Cap {
	return api.Cap{Base: 1 << 20, End: 1<<20 + 8*of, Cursor: 1<<20 + 8*pc, Perms: api.Exec}
}

func TestCodeCapabilities(t *testing.T) {
	checkAllGoing(t, []going{
		does("cpc r4 0", nums{}, laidCap(4, code(0, 4))),
		does("cpc r8 3", nums{}, laidCap(8, code(3, 4))),
		behind("cpc r4 4", "jc r4", goneTo(4)),
		behind("cpc r4 0", "jc r4", goneTo(0)),
		behind("cpc r4 1", "jc r4", goneTo(1)),
		behind("cpc r4 0 / cinci r4 r4 40", "jc r4", goneTo(5)),
		behind("cpc r4 4 / csetbi r4 r4 8", "jc r4", goneTo(4)),
		behind("cpc r4 4 / candp r4 r4 rwcdx", "jc r4", goneTo(4)),
		behind("cpc r4 4 / cseal r4 r4 r10 / cunseal r4 r4 r10", "jc r4", goneTo(4)),
	})
}

func TestInputsAndOutputs(t *testing.T) {
	checkAllGoing(t, []going{
		does("in r4", nums{}, laidNumber(4, 77)),
		does("in r8", nums{}, laidNumber(8, 77)),
		behind("in r4", "in r4", laidNumber(4, 78)),
		does("out r1", nums{top}, putOut(top)),
		does("out r0", nums{}, putOut(0)),
		behind("out r1 / in r4", "out r4", putOut(77)),
	})
}

func changed(c api.Cap, change func(c *api.Cap)) api.Cap {
	change(&c)
	return c
}

func pointing(c api.Cap, cursor uint64) api.Cap {
	return changed(c, func(c *api.Cap) { c.Cursor = cursor })
}

func bounded(c api.Cap, base, end uint64) api.Cap {
	return changed(c, func(c *api.Cap) { c.Base, c.End = base, end })
}

func sealed(c api.Cap, by int) api.Cap {
	return changed(c, func(c *api.Cap) { c.Seal = by })
}

func permitted(c api.Cap, p api.Perms) api.Cap {
	return changed(c, func(c *api.Cap) { c.Perms = p })
}

func TestMadeCapabilities(t *testing.T) {
	checkAllGoing(t, []going{
		does("cinc r4 r8 r1", nums{7}, laidCap(4, pointing(inBytes, 11))),
		does("cinc r8 r8 r1", nums{top}, laidCap(8, pointing(inBytes, 3))),
		does("cinc r4 r8 r1", nums{top - 4}, laidCap(4, pointing(inBytes, top))),
		does("cinci r4 r8 100", nums{}, laidCap(4, pointing(inBytes, 104))),
		does("cinci r4 r8 -5", nums{}, laidCap(4, pointing(inBytes, top))),
		does("csetb r4 r8 r1", nums{28}, laidCap(4, bounded(inBytes, 4, 32))),
		does("csetb r4 r8 r1", nums{0}, laidCap(4, bounded(inBytes, 4, 4))),
		does("csetbi r4 r8 5", nums{}, laidCap(4, bounded(inBytes, 4, 9))),
		does("csetbi r4 r12 65536", nums{}, laidCap(4, bounded(far, 0, 65536))),
		does("candp r4 r8 wcx", nums{}, laidCap(4, permitted(inBytes, api.Store))),
		does("candp r4 r8 -", nums{}, laidCap(4, permitted(inBytes, 0))),
		does("candp r4 r10 rwcdxsu", nums{}, laidCap(4, key)),
		does("cseal r4 r8 r10", nums{}, laidCap(4, closed)),
		does("cseal r4 r10 r10", nums{}, laidCap(4, sealed(key, 5))),
		behind("cinci r10 r10 2", "cseal r10 r9 r10", laidCap(10, sealed(inSlots, 7))),
		does("cunseal r4 r11 r10", nums{}, laidCap(4, inBytes)),
	})
}

func TestAskedCapabilities(t *testing.T) {
	checkAllGoing(t, []going{
		does("caddr r4 r15", nums{}, laidNumber(4, 40)),
		does("caddr r8 r11", nums{}, laidNumber(8, 4)),
		behind("cinci r4 r8 -5", "caddr r4 r4", laidNumber(4, top)),
		does("cbase r4 r9", nums{}, laidNumber(4, 64)),
		does("cbase r4 r14", nums{}, laidNumber(4, 1)),
		does("cend r4 r12", nums{}, laidNumber(4, 1<<32)),
		does("cend r4 r11", nums{}, laidNumber(4, 32)),
		does("cperm r4 r10", nums{}, laidNumber(4, 96)),
		does("cperm r4 r14", nums{}, laidNumber(4, 64)),
		does("cperm r4 r13", nums{}, laidNumber(4, 0)),
		does("csealed r4 r11", nums{}, laidNumber(4, 5)),
		does("csealed r4 r8", nums{}, laidNumber(4, 0)),
		does("ctag r4 r8", nums{}, laidNumber(4, 1)),
		does("ctag r8 r8", nums{}, laidNumber(8, 1)),
		does("ctag r4 r11", nums{}, laidNumber(4, 1)),
		does("ctag r4 r1", nums{5}, laidNumber(4, 0)),
	})
}

func TestSameCapabilities(t *testing.T) {
	checkAllGoing(t, []going{
		does("csame r4 r8 r8", nums{}, laidNumber(4, 1)),
		behind("mov r4 r11", "csame r8 r4 r11", laidNumber(8, 1)),
		behind("cinci r4 r8 1 / cinci r4 r4 -1", "csame r4 r8 r4", laidNumber(4, 1)),
		behind("cinci r4 r8 1", "csame r4 r8 r4", laidNumber(4, 0)),
		behind("csetbi r4 r8 28", "csame r4 r8 r4", laidNumber(4, 0)),
		behind("cinci r4 r8 -4 / csetbi r4 r4 31 / cinci r4 r4 4", "csame r4 r8 r4", laidNumber(4, 0)),
		does("csame r4 r8 r11", nums{}, laidNumber(4, 0)),
		does("csame r4 r8 r13", nums{}, laidNumber(4, 0)),
		does("csame r4 r1 r8", nums{4}, laidNumber(4, 0)),
		does("csame r4 r8 r1", nums{4}, laidNumber(4, 0)),
		does("csame r4 r1 r1", nums{4}, laidNumber(4, 0)),
		does("csame r4 r0 r5", nums{}, laidNumber(4, 0)),
	})
}

const noughts = "\x00\x00\x00\x00\x00\x00\x00\x00"

func TestLoads(t *testing.T) {
	checkAllGoing(t, []going{
		does("lb r4 r8 0", nums{}, laidNumber(4, 5), loaded(4, 1)),
		does("lb r4 r8 -4", nums{}, laidNumber(4, 1), loaded(0, 1)),
		does("lb r8 r8 27", nums{}, laidNumber(8, 0), loaded(31, 1)),
		does("lw r4 r8 -3", nums{}, laidNumber(4, 0x0908070605040302), loaded(1, 8)),
		does("lw r4 r8 20", nums{}, laidNumber(4, 0), loaded(24, 8)),
		does("lb r4 r15 -9", nums{}, laidNumber(4, 0), loaded(31, 1)),
		does("lb r4 r9 16", nums{}, laidNumber(4, 40), loaded(80, 1)),
		does("lw r4 r9 4", nums{}, laidNumber(4, 0), loaded(68, 8)),
		does("lw r4 r9 0", nums{}, laidNumber(4, 4), loaded(64, 8)),
		does("lb r4 r12 65535", nums{}, laidNumber(4, 0), loaded(65535, 1)),
		does("lw r4 r12 65528", nums{}, laidNumber(4, 0), loaded(65528, 8)),
		does("lc r4 r9 0", nums{}, laidCap(4, inBytes), loaded(64, 16)),
		does("lc r9 r9 16", nums{}, laidCap(9, pastEnd), loaded(80, 16)),
		does("lc r4 r9 32", nums{}, laidCap(4, api.Cap{End: 16, Cursor: 2, Perms: api.Load, Seal: 7}), loaded(96, 16)),
		does("lc r4 r12 65520", nums{}, laidNumber(4, 0), loaded(65520, 16)),
		does("lc r4 r12 0", nums{}, laidNumber(4, 0x0807060504030201), loaded(0, 16)),
		behind("sb r0 r9 15", "lc r8 r9 0", laidNumber(8, 4), loaded(64, 16)),
		behind("cinci r4 r9 24", "lc r4 r4 -24", laidCap(4, inBytes), loaded(64, 16)),
		behind("candp r4 r8 r", "lb r4 r4 0", laidNumber(4, 5), loaded(4, 1)),
		behind("candp r4 r9 c", "lc r4 r4 0", laidCap(4, inBytes), loaded(64, 16)),
	})
}

func TestStores(t *testing.T) {
	checkAllGoing(t, []going{
		does("sb r1 r8 3", nums{5}, stored(7, "\x05")),
		does("sb r1 r8 -4", nums{0x1ff}, stored(0, "\xff")),
		does("sb r1 r8 27", nums{top - 1}, stored(31, "\xfe")),
		does("sw r1 r8 3", nums{0x0102030405060708}, stored(7, "\x08\x07\x06\x05\x04\x03\x02\x01")),
		does("sw r1 r8 20", nums{top}, stored(24, "\xff\xff\xff\xff\xff\xff\xff\xff")),
		does("sw r1 r12 65528", nums{1}, stored(65528, "\x01\x00\x00\x00\x00\x00\x00\x00")),
		does("sb r1 r12 65535", nums{1}, stored(65535, "\x01")),
		does("sb r1 r9 31", nums{9}, stored(95, "\x09")),
		does("sw r1 r9 12", nums{0}, stored(76, noughts)),
		does("sc r1 r9 16", nums{258}, stored(80, "\x02\x01\x00\x00\x00\x00\x00\x00"+noughts)),
		does("sc r10 r9 32", nums{}, stored(96, "\x05\x00\x00\x00\x00\x00\x00\x00"+noughts), tagged(96, key)),
		does("sc r11 r9 0", nums{}, stored(64, "\x04\x00\x00\x00\x00\x00\x00\x00"+noughts), tagged(64, closed)),
		does("sc r9 r9 0", nums{}, stored(64, "\x40\x00\x00\x00\x00\x00\x00\x00"+noughts), tagged(64, inSlots)),
		does("sc r8 r12 65520", nums{}, stored(65520, "\x04\x00\x00\x00\x00\x00\x00\x00"+noughts), tagged(65520, inBytes)),
		behind("candp r4 r8 w", "sb r0 r4 0", stored(4, "\x00")),
		behind("candp r4 r9 d", "sc r8 r4 0", stored(64, "\x04\x00\x00\x00\x00\x00\x00\x00"+noughts), tagged(64, inBytes)),
		behind("cpc r4 0", "sc r4 r9 0", stored(64, "\x00\x00\x10\x00\x00\x00\x00\x00"+noughts), tagged(64, code(0, 5))),
	})
}

func TestGuardsThatHold(t *testing.T) {
	checkAllGoing(t, []going{
		does("glt r1 5 9", nums{4}),
		does("glt r1 2147483647 0", nums{2147483646}),
		does("gge r1 5 9", nums{5}),
		does("gge r1 0 9", nums{0}),
		does("gge r1 2147483647 9", nums{top}),
		does("gtag r8 9", nums{}),
		does("gtag r11 9", nums{}),
		does("gin r8 28 9", nums{}),
		does("gin r8 0 9", nums{}),
		does("gin r13 28 9", nums{}),
		behind("cinci r4 r8 28", "gin r4 0 9"),
		does("gin r12 65536 9", nums{}),
		does("gperm r8 rw 9", nums{}),
		does("gperm r8 w 9", nums{}),
		does("gperm r13 - 9", nums{}),
		does("gperm r11 r 9", nums{}),
		does("gseal r8 0 9", nums{}),
		does("gseal r11 5 9", nums{}),
	})
}
