package link_test

import (
	"fmt"
	"slices"
	"testing"

	"paddock/api"
	"paddock/link"
)

// anyGate is the number of a gate of a module, or one about these.
func (d dice) anyGate(m api.Module) int { return d.IntN(len(m.Image.Gates)+2) - 1 }

// anyName is one that may be, mostly one of another module.
func (d dice) anyName(l []api.Module) string {
	m := of(d, l...)
	return of(d, append(slices.Clone(m.Names), "nobody", "0", "_", "abcdefghijklmnop", "abcdefghijklmnopq", "a b", "ö")...)
}

// turn changes something of one of the modules, so that it may be wrong, or not.
func (d dice) turn(l []api.Module) {
	m := &l[d.IntN(len(l))]
	switch d.IntN(14) {
	case 0:
		m.Image.Regions[d.IntN(len(m.Image.Regions))].Base = 32 * d.Uint64N(40)
	case 1:
		r := &m.Image.Regions[d.IntN(len(m.Image.Regions))]
		r.Len = of[uint64](d, r.Len, 16, 48, 64)
	case 2, 3:
		if len(m.Names) > 0 {
			m.Names[d.IntN(len(m.Names))] = d.anyName(l)
		}
	case 4, 5:
		if len(m.Needs) > 0 {
			m.Needs[d.IntN(len(m.Needs))].Name = d.anyName(l)
		}
	case 6:
		if len(m.Needs) > 0 {
			m.Needs[d.IntN(len(m.Needs))].Gate = d.anyGate(*m)
		}
	case 7, 8:
		g := &m.Image.Gates[d.IntN(len(m.Image.Gates))]
		list := of(d, &g.Args, &g.Results)
		*list = append(slices.Clone(*list), api.Type{})
	case 9:
		m.Image.Comps = append(m.Image.Comps, m.Image.Comps[0])
	case 10:
		for range d.IntN(9) {
			m.Image.Gates, m.Names = append(m.Image.Gates, api.Gate{}), append(m.Names, "")
		}
	case 11:
		m.Image.Regions = append(m.Image.Regions, api.Region{Base: 4096 + 16*d.Uint64N(64), Len: 16})
	case 12:
		m.Names = m.Names[:d.IntN(len(m.Names)+1)]
	case 13:
		c := m.Image.Comps[0].Code
		c[d.IntN(len(c))] = api.Inst{Op: api.CALL, Imm: d.IntN(len(m.Image.Gates) + 2)}
	}
}

// away are the same modules elsewhere in memory, with other names.
func away(l []api.Module) []api.Module {
	l = looseAll(l)
	for _, m := range l {
		for k := range m.Image.Regions {
			m.Image.Regions[k].Base += 8192
		}
		for k, name := range m.Names {
			if name != "" {
				m.Names[k] = "x" + name
			}
		}
		for k := range m.Needs {
			m.Needs[k].Name = "x" + m.Needs[k].Name
		}
	}
	return l
}

// checkAsRead holds Right and Link against a plain reading.
func checkAsRead(t *testing.T, what string, l []api.Module) (api.Errno, int) {
	t.Helper()
	for k, m := range l {
		if e, want := link.Right(m), rightBy(m); e != want {
			t.Fatalf("17.1: %s: Right of the module %d: %d, want %d", what, k, e, want)
		}
	}
	want, whose := wrongBy(l)
	if want != api.OK {
		checkNoLink(t, what, want, whose, l...)
	} else {
		checkSame(t, "17.3: "+what, linked(t, what, l...), madeOf(l))
	}
	return want, whose
}

// TestTurned: families of the dice in which something was changed, as a plain reading has them.
func TestTurned(t *testing.T) {
	t.Parallel()
	told, whose := map[api.Errno]int{}, map[int]int{}
	for seed := range uint64(3000) {
		d := rolled(6000 + seed)
		l, _ := d.family()
		if d.IntN(2) == 0 {
			more, _ := d.family()
			l = append(l, of(d, more, away(more), away(more))...)
			d.Shuffle(len(l), func(a, b int) { l[a], l[b] = l[b], l[a] })
		}
		for range d.IntN(4) {
			d.turn(l)
		}
		e, k := checkAsRead(t, fmt.Sprintf("the family %d", seed), l)
		told[e]++
		whose[k]++
	}
	for _, e := range []api.Errno{api.OK, api.ErrModule, api.ErrRegion, api.ErrNeed, api.ErrMatch, api.ErrCount, api.ErrTarget} {
		if told[e] < 50 {
			t.Errorf("%d is told %d times: the dice are too narrow", e, told[e])
		}
	}
	for k := range 5 {
		if whose[k] < 50 {
			t.Errorf("%d times it is the module %d: the dice are too narrow", whose[k], k)
		}
	}
}
