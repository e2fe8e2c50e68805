package tape_test

import (
	"testing"

	"paddock/api"
	"paddock/capmachine"
	"paddock/erase"
	"paddock/tape"
)

// model is a run as the first machine does it, of which all is kept at each place.
type model struct {
	snaps   []api.FSnap
	bytes   []string
	wrote   []api.Touch // by each step; of no size: nothing
	outcome api.Outcome
}

func modelOf(t testing.TB, r run) *model {
	t.Helper()
	x, e := capmachine.New(r.m, r.gate, r.args, r.inputs)
	if e != api.OK {
		t.Fatalf("7.1: New: %d", e)
	}
	m := &model{}
	m.see(x)
	for len(m.wrote) < r.fuel && len(m.wrote) < api.MaxFuel && m.outcome.End == api.Running {
		before := x.Touches()
		m.outcome = x.Step()
		var w api.Touch
		if l := x.Touches(); len(l) > len(before) && l[len(before)].Store {
			w = l[len(before)]
		}
		m.wrote = append(m.wrote, w)
		m.see(x)
	}
	m.outcome = x.Run(0)
	return m
}

func (m *model) see(x *capmachine.Machine) {
	m.snaps = append(m.snaps, erase.Snap(x.Snap()))
	b := x.Memory().Bytes()
	if n := len(m.bytes); n > 0 && m.bytes[n-1] == b {
		b = m.bytes[n-1]
	}
	m.bytes = append(m.bytes, b)
}

func (m *model) len() int { return len(m.snaps) - 1 }

func (m *model) stores(addr uint64) []int {
	var l []int
	for k, w := range m.wrote {
		if w.Addr <= addr && addr < w.Addr+w.Size {
			l = append(l, k+1)
		}
	}
	return l
}

// isAtHand is 21.6, as it is written.
func (m *model) isAtHand(gate, pc, place int) bool {
	s := m.snaps[place]
	return s.Gate == gate && s.Pc == pc && (place < m.len() || m.outcome.End == api.Spent)
}

func (m *model) find(gate, pc, from int, back bool) int {
	found := -1
	for place := range m.snaps {
		if !m.isAtHand(gate, pc, place) {
			continue
		}
		if back && place <= from {
			found = place
		}
		if !back && place >= from {
			return place
		}
	}
	return found
}

// checkPlaces holds the states at all places against the model's, in an order that is handed in; at each place a byte, too, of these addresses in turn.
func (m *model) checkPlaces(t testing.TB, what string, x *tape.Tape, order []int, addrs []uint64) {
	t.Helper()
	for k, place := range order {
		checkAt(t, what, x, place, m.snaps[place])
		addr := addrs[k%len(addrs)]
		checkByte(t, what, x, place, addr, m.bytes[place][addr])
	}
}

func (m *model) checkStores(t testing.TB, what string, x *tape.Tape) {
	t.Helper()
	for addr := range uint64(160) {
		checkStores(t, what, x, addr, m.stores(addr)...)
		checkStores(t, what, x, api.MaxMem-80+addr, m.stores(api.MaxMem-80+addr)...)
	}
	checkStores(t, what, x, top)
}

// checkFinds asks for all instructions of so many gates, and for some that are not there, from everywhere.
func (m *model) checkFinds(t testing.TB, what string, x *tape.Tape, gates, size int) {
	t.Helper()
	for gate := -1; gate <= gates; gate++ {
		for pc := -1; pc <= size; pc++ {
			for from := -2; from <= m.len()+2; from++ {
				seek{gate, pc, from, false, m.find(gate, pc, from, false)}.check(t, what, x)
				seek{gate, pc, from, true, m.find(gate, pc, from, true)}.check(t, what, x)
			}
		}
	}
}

func (m *model) checkEnd(t testing.TB, what string, x *tape.Tape) {
	t.Helper()
	checkLen(t, what, x, m.len())
	checkOutcome(t, what, x, m.outcome)
	for _, step := range []int{least, -1, m.len() + 1, most} {
		checkNoStep(t, what, x, step)
	}
}

// rising are the places of a run of so many steps.
func rising(steps int) []int {
	var l []int
	for place := range steps + 1 {
		l = append(l, place)
	}
	return l
}
