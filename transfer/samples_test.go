package transfer_test

import (
	"strconv"
	"strings"
	"testing"

	"paddock/api"
	"paddock/instr"
	"paddock/transfer"
)

const top = ^uint64(0)

const rw = api.Load | api.Store

func s(lo uint64, hi uint64) api.Span { return api.Span{Lo: lo, Hi: hi} }

func one(n uint64) api.Span { return s(n, n) }

// nothing is known.
func nothing() api.RType { return api.RType{} }

func integer(lo uint64, hi uint64) api.RType { return api.RType{Kind: api.AnInt, N: s(lo, hi)} }

// capability has known bounds, permissions and seal, and points from lo to hi.
func capability(base, end, lo, hi uint64, p api.Perms, seal int) api.RType {
	return api.RType{Kind: api.ACap, Base: one(base), End: one(end), Point: s(lo, hi), Must: p, May: p, Seal: seal}
}

// but is r with something changed in it.
func but(r api.RType, change func(r *api.RType)) api.RType {
	change(&r)
	return r
}

// sealed is r with a seal; -1: it is not known.
func sealed(r api.RType, seal int) api.RType {
	r.Seal = seal
	return r
}

// wide has bounds that are not known: it begins from 4 to 8, and ends from 24 to 32.
func wide(lo, hi uint64) api.RType {
	return api.RType{Kind: api.ACap, Base: s(4, 8), End: s(24, 32), Point: s(lo, hi), Must: rw, May: rw}
}

// The root r8 of the chapter's examples, and what lies in the slots of the yard.
func root() api.RType { return capability(0, 32, 0, 0, rw, 0) }

func firstSlot() api.Type { return api.Type{Cap: true, End: 32, Hi: 16, Perms: rw} }

func secondSlot() api.Type { return api.Type{Cap: true, Base: 8, End: 16, Lo: 3, Hi: 9, Seal: 2} }

// at is where the instruction that is asked for stands in the yard, by the gate inner.
const (
	at    = 2
	inner = 1
	base  = api.CodeBase + api.CodeStep // the address of the code of inner's compartment
	size  = 6                           // how many instructions it has
)

// yard is a program with this instruction at the place at. Bytes lie from 0 to 32 and from 80 to 112, in two regions each, slots at 48 and 64.
func yard(i api.Inst) api.Image {
	code := make([]api.Inst, size)
	for pc := range code {
		code[pc] = api.Inst{Op: api.JMP, Imm: pc}
	}
	code[at] = i
	return api.Image{
		Depth: 1,
		Regions: []api.Region{
			{Base: 0, Len: 16},
			{Base: 16, Len: 16},
			{Base: 48, Len: 32, Slots: []api.Slot{{Type: firstSlot()}, {Type: secondSlot(), Cursor: 3}}},
			{Base: 80, Len: 32, Data: "bytes"},
		},
		Comps: []api.Comp{
			{Code: []api.Inst{{Op: api.RET}}},
			{Roots: []api.Root{{Reg: 8, Cap: api.Cap{End: 32, Perms: rw}}}, Code: code},
		},
		Gates: []api.Gate{
			{Comp: 0},
			{Comp: 1, Args: []api.Type{{}, {}, {}}, Results: []api.Type{{}, secondSlot()}},
			{Comp: 0, Args: []api.Type{{}, firstSlot()}, Results: []api.Type{secondSlot(), {}}},
		},
	}
}

// regs is what is known of some registers.
type regs map[int]api.RType

// ahead is what is known ahead of an instruction: r8 is the root, r0 to r7 and r9 to r15 are each an integer of its own, but for some.
func ahead(r regs) api.State {
	st := api.State{Live: true}
	for k := range st.Regs {
		st.Regs[k] = integer(0, uint64(k))
	}
	st.Regs[8] = root()
	for k, x := range r {
		st.Regs[k] = x
	}
	return st
}

// inst reads an instruction: its name, then its fields as chapter 3's Shape has them, in numbers, registers with an r ahead.
func inst(text string) api.Inst {
	words := strings.Fields(text)
	i := api.Inst{Op: instr.Find(words[0])}
	registers := []*int{&i.A, &i.B, &i.C}
	for k, letter := range instr.Shape(i.Op) {
		n, err := strconv.Atoi(strings.TrimPrefix(words[1+k], "r"))
		if err != nil {
			panic(err)
		}
		switch {
		case letter == 'r':
			*registers[k] = n
		case letter == 'c' && i.Op != api.TRAP:
			i.C = n
		default:
			i.Imm = n
		}
	}
	if e := instr.Right(i); e != api.OK || len(words) != 1+len(instr.Shape(i.Op)) {
		panic(text)
	}
	return i
}

func do(text string, r regs) api.Step { return transfer.Do(yard(inst(text)), inner, at, ahead(r)) }

// sameStep holds a step against another one; a list without elements may be nil or not.
func sameStep(a api.Step, b api.Step) bool {
	if a.Reason != b.Reason || a.Verdict != b.Verdict || a.Value != b.Value || len(a.Next) != len(b.Next) {
		return false
	}
	for k := range a.Next {
		if a.Next[k] != b.Next[k] {
			return false
		}
	}
	return true
}

func checkStep(t *testing.T, what string, got, want api.Step) {
	t.Helper()
	if !sameStep(got, want) {
		t.Errorf("%s: %+v, want %+v", what, got, want)
	}
}

// refused is all that a step has that has a Reason.
func refused(why api.Reason) api.Step { return api.Step{Reason: why} }

func succ(pc int, r regs) api.Succ { return api.Succ{Pc: pc, State: ahead(r)} }

// with is r, and something else in a register.
func with(r regs, k int, x api.RType) regs {
	l := regs{k: x}
	for n, y := range r {
		if n != k {
			l[n] = y
		}
	}
	return l
}

// refusal is an instruction that is refused.
type refusal struct {
	text string
	r    regs
	why  api.Reason
}

// checkRefusals asks for each, and once more as the last instruction of its code: RFall comes behind all other Reasons.
func checkRefusals(t *testing.T, promise string, l []refusal) {
	t.Helper()
	for _, c := range l {
		checkStep(t, promise+": "+c.text, do(c.text, c.r), refused(c.why))
		checkStep(t, promise+": "+c.text+", the last one", asLast(c.text, c.r), refused(c.why))
	}
}

// asLast asks for an instruction as the last one of its code.
func asLast(text string, r regs) api.Step {
	m := yard(inst(text))
	m.Comps[1].Code = m.Comps[1].Code[:at+1]
	return transfer.Do(m, inner, at, ahead(r))
}

// going is an instruction that goes on: with a Verdict and a Value, and what A has then (nil: what it had).
type going struct {
	text    string
	r       regs
	verdict api.Verdict
	value   uint64
	has     *api.RType
}

// lays is a Plain one that lays something in A.
func lays(text string, r regs, has api.RType) going { return going{text: text, r: r, has: &has} }

// leaves is a Plain one that changes nothing.
func leaves(text string, r regs) going { return going{text: text, r: r} }

// tells is one whose answer is known.
func tells(text string, r regs, n uint64) going {
	has := integer(n, n)
	return going{text: text, r: r, verdict: api.Known, value: n, has: &has}
}

// holds is a guard that surely holds.
func holds(text string, r regs) going { return going{text: text, r: r, verdict: api.Holds} }

// checkGoing asks for each: all of the state that is next is looked at. As the last instruction of its code it is RFall, with nothing beside it.
func checkGoing(t *testing.T, promise string, l []going) {
	t.Helper()
	for _, c := range l {
		r := c.r
		if c.has != nil {
			r = with(c.r, inst(c.text).A, *c.has)
		}
		want := api.Step{Verdict: c.verdict, Value: c.value, Next: []api.Succ{succ(at+1, r)}}
		checkStep(t, promise+": "+c.text, do(c.text, c.r), want)
		checkStep(t, "10.2: "+c.text+", the last one", asLast(c.text, c.r), refused(api.RFall))
	}
}
