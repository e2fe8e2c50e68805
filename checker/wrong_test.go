package checker_test

import (
	"testing"

	"paddock/api"
	"paddock/checker"
	"paddock/image"
)

// wrongs are programs that are not right, each by one thing in one that is taken, and of the static part.
func wrongs(t *testing.T) map[string]api.Image {
	t.Helper()
	change := func(f func(m *api.Image)) api.Image {
		m := parse(t, alone("li r1 1", "halt r1"))
		f(&m)
		return m
	}
	return map[string]api.Image{
		"nothing":             {},
		"no compartment":      change(func(m *api.Image) { m.Comps = nil }),
		"no gate":             change(func(m *api.Image) { m.Gates = nil }),
		"no code":             change(func(m *api.Image) { m.Comps[0].Code = nil }),
		"too deep":            change(func(m *api.Image) { m.Depth = api.MaxDepth + 1 }),
		"a region twice":      change(func(m *api.Image) { m.Regions = append(m.Regions, m.Regions[0]) }),
		"a root in r6":        change(func(m *api.Image) { m.Comps[0].Roots[0].Reg = 6 }),
		"a root in r7":        change(func(m *api.Image) { m.Comps[0].Roots[0].Reg = 7 }),
		"a root with Exec":    change(func(m *api.Image) { m.Comps[0].Roots[0].Cap.Perms |= api.Exec }),
		"a jump behind":       change(func(m *api.Image) { m.Comps[0].Code[1] = api.Inst{Op: api.JMP, Imm: 2} }),
		"a call of no gate":   change(func(m *api.Image) { m.Comps[0].Code[0] = api.Inst{Op: api.CALL, Imm: 1} }),
		"no operation":        change(func(m *api.Image) { m.Comps[0].Code[0].Op = 14 }),
		"a field too many":    change(func(m *api.Image) { m.Comps[0].Code[0].C = 1 }),
		"a gate nowhere":      change(func(m *api.Image) { m.Gates[0].Comp = 1 }),
		"an entry nowhere":    change(func(m *api.Image) { m.Gates[0].Entry = 2 }),
		"an entry below 0":    change(func(m *api.Image) { m.Gates[0].Entry = -1 }),
		"a wrong type":        change(func(m *api.Image) { m.Gates[0].Args = []api.Type{{Hi: 5}} }),
		"a wrong result":      change(func(m *api.Image) { m.Gates[0].Results = []api.Type{{Cap: true, Lo: 5}} }),
		"too many gates":      change(func(m *api.Image) { m.Gates = make([]api.Gate, api.MaxGates+1) }),
		"too much code":       change(func(m *api.Image) { m.Comps[0].Code = make([]api.Inst, api.MaxCode+1) }),
		"too many registers":  change(func(m *api.Image) { m.Gates[0].Args = make([]api.Type, api.MaxArgs+1) }),
		"a register nowhere":  change(func(m *api.Image) { m.Comps[0].Code[0].A = 16 }),
		"registers below 0":   change(func(m *api.Image) { m.Comps[0].Code[0].A = -1 }),
		"unreached, but none": change(func(m *api.Image) { m.Comps = append(m.Comps, api.Comp{}) }),
	}
}

// TestNotRight: what all calls say of a program that is not right; a table of the right one does not help.
func TestNotRight(t *testing.T) {
	good := parse(t, alone("li r1 1", "halt r1"))
	table := checker.Check(good).Table
	if !checker.Settled(good, table) || !checker.Static(good) || checker.Most(good) != 2 {
		t.Fatalf("11: the program of which wrong ones are made is not taken: %+v", table)
	}
	for what, m := range wrongs(t) {
		if image.Right(m) == api.OK {
			t.Fatalf("%s: the program is right", what)
		}
		r := checker.Check(m)
		if r.Reason != api.RTarget || r.Gate != 0 || r.Pc != 0 || r.Steps != 0 || r.Table != nil {
			t.Errorf("11: %s: Check tells %+v", what, r)
		}
		for _, l := range []api.Table{nil, {}, table, make(api.Table, len(m.Gates))} {
			if checker.Settled(m, l) {
				t.Errorf("11: %s: %+v is settled", what, l)
			}
		}
		if checker.Static(m) {
			t.Errorf("11: %s: it is of the static part", what)
		}
		if n := checker.Most(m); n != 0 {
			t.Errorf("11: %s: Most is %d", what, n)
		}
	}
}
