package transfer_test

import (
	"testing"

	"paddock/api"
	"paddock/transfer"
)

// exampleProgram has r8 and the region of the chapter's examples; the instruction is the first of ten.
func exampleProgram(text string) api.Image {
	code := []api.Inst{inst(text)}
	for len(code) < 10 {
		code = append(code, api.Inst{Op: api.RET})
	}
	return api.Image{
		Depth:   1,
		Regions: []api.Region{{Len: 32}},
		Comps:   []api.Comp{{Roots: []api.Root{{Reg: 8, Cap: api.Cap{End: 32, Perms: rw}}}, Code: code}},
		Gates:   []api.Gate{{}},
	}
}

// TestExamples: those of the chapter, one by one.
func TestExamples(t *testing.T) {
	numbers := regs{1: integer(0, 40), 2: integer(8, 8)}
	pointer := capability(0, 32, 0, 31, rw, 0)
	moved := regs{1: integer(0, 31), 6: pointer}
	next := func(pc int, r regs) api.Succ {
		return api.Succ{Pc: pc, State: noughts(with(r, 8, root()))}
	}
	for _, c := range []struct {
		text string
		r    regs
		want api.Step
	}{
		{"lb r1 r8 3", nil, api.Step{Next: []api.Succ{next(1, regs{1: integer(0, 255)})}}},
		{"lb r1 r8 32", nil, refused(api.RBounds)},
		{"sb r8 r8 0", nil, refused(api.RInt)},
		{"lb r1 r2 0", nil, refused(api.RCap)},

		{"glt r1 32 0", numbers, api.Step{Next: []api.Succ{next(1, with(numbers, 1, integer(0, 31)))}}},
		{"glt r1 41 0", numbers, api.Step{Verdict: api.Holds, Next: []api.Succ{next(1, numbers)}}},
		{"gge r1 50 0", numbers, api.Step{Verdict: api.Fails}},
		{"blt r1 r2 9", numbers, api.Step{Next: []api.Succ{next(1, with(numbers, 1, integer(8, 40))), next(9, with(numbers, 1, integer(0, 7)))}}},

		{"cinc r6 r8 r1", regs{1: integer(0, 31)}, api.Step{Next: []api.Succ{next(1, moved)}}},
		{"lb r2 r6 0", moved, api.Step{Next: []api.Succ{next(1, with(moved, 2, integer(0, 255)))}}},
		{"lw r2 r6 0", moved, refused(api.RBounds)},

		{"cend r1 r8", nil, api.Step{Verdict: api.Known, Value: 32, Next: []api.Succ{next(1, regs{1: integer(32, 32)})}}},
		{"csame r1 r8 r2", nil, api.Step{Verdict: api.Known, Value: 0, Next: []api.Succ{next(1, regs{1: integer(0, 0)})}}},
		{"csame r1 r8 r6", moved, api.Step{Next: []api.Succ{next(1, with(moved, 1, integer(0, 1)))}}},
		{"gtag r8 0", nil, api.Step{Verdict: api.Holds, Next: []api.Succ{next(1, nil)}}},
		{"gperm r8 4 0", nil, api.Step{Verdict: api.Fails}},
	} {
		m := exampleProgram(c.text)
		st := transfer.Entry(m, 0)
		for k, x := range c.r {
			st.Regs[k] = x
		}
		checkStep(t, "Examples: "+c.text, transfer.Do(m, 0, 0, st), c.want)
	}
}
