package cert_test

import (
	"slices"
	"strings"

	"paddock/api"
	"paddock/checker"
	"paddock/image"
	"paddock/regtype"
	"paddock/transfer"
)

// said is what a certificate says for a gate, by instruction.
type said map[int]api.State

// plainly reads bytes as 22.1's words go: each number is cut from the front.
type plainly struct {
	s     string
	wrong bool
}

func (p *plainly) number(size int) uint64 {
	if len(p.s) < size {
		p.s, p.wrong = "", true
		return 0
	}
	n := uint64(0)
	for _, b := range slices.Backward([]byte(p.s[:size])) {
		n = n*256 + uint64(b)
	}
	p.s = p.s[size:]
	return n
}

// span reads one that is not empty.
func (p *plainly) span() api.Span {
	s := api.Span{Lo: p.number(8), Hi: p.number(8)}
	if s.Lo > s.Hi {
		p.wrong = true
	}
	return s
}

func (p *plainly) register() api.RType {
	switch kind := p.number(1); kind {
	case 0:
		return api.RType{}
	case 1:
		return api.RType{Kind: api.AnInt, N: p.span()}
	case 2:
		r := api.RType{Kind: api.ACap, Base: p.span(), End: p.span(), Point: p.span()}
		must, may, seal := p.number(1), p.number(1), int(p.number(1))-1
		if must&^may != 0 || may > 127 || seal > 15 {
			p.wrong = true
		}
		r.Must, r.May, r.Seal = api.Perms(must), api.Perms(may), seal
		return r
	}
	p.wrong = true
	return api.RType{}
}

// modelRead is what a certificate says; false: the bytes are none for m.
func modelRead(m api.Image, s string) ([]said, bool) {
	if image.Right(m) != api.OK || len(s) > 1048576 || !strings.HasPrefix(s, "PADCE1") {
		return nil, false
	}
	p := &plainly{s: s[6:]}
	if p.number(1) != uint64(len(m.Gates)) {
		return nil, false
	}
	var l []said
	for _, g := range m.Gates {
		x, last := said{}, -1
		for range p.number(2) {
			pc := int(p.number(2))
			if pc <= last || pc >= len(m.Comps[g.Comp].Code) || p.wrong {
				return nil, false
			}
			last = pc
			state := api.State{Live: true}
			for k := range state.Regs {
				state.Regs[k] = p.register()
			}
			x[pc] = state
		}
		l = append(l, x)
	}
	return l, !p.wrong && p.s == ""
}

// way is by which of 22.3's three ways something shows.
type way int

const (
	noWay way = iota
	byReason
	byState
	byUnsaid
)

// verdict is what Verify tells, and how it comes to that.
type verdict struct {
	e        api.Errno
	gate, pc int
	by       way
	atEntry  bool
	table    api.Table
}

// modelVerify does what 22.3's words say. What came to each instruction is kept in a list.
func modelVerify(m api.Image, s string) verdict {
	l, ok := modelRead(m, s)
	if !ok {
		return verdict{e: api.ErrCert}
	}
	v := verdict{}
	for gate, g := range m.Gates {
		x := l[gate]
		code := m.Comps[g.Comp].Code
		came := make([][]api.State, len(code))
		known := func(pc int) api.State {
			if state, speaks := x[pc]; speaks {
				return state
			}
			all := api.State{}
			for _, state := range came[pc] {
				all = regtype.JoinState(all, state)
			}
			return all
		}
		entry := transfer.Entry(m, gate)
		if state, speaks := x[g.Entry]; speaks && !regtype.UnderState(entry, state) {
			return verdict{e: api.ErrProve, gate: gate, pc: g.Entry, by: byState, atEntry: true}
		}
		came[g.Entry] = append(came[g.Entry], entry)
		var states []api.State
		for pc := range code {
			state := known(pc)
			states = append(states, state)
			if !state.Live {
				continue
			}
			step := transfer.Do(m, gate, pc, state)
			if step.Reason != api.Fine {
				return verdict{e: api.ErrProve, gate: gate, pc: pc, by: byReason}
			}
			for _, n := range step.Next {
				there, speaks := x[n.Pc]
				switch {
				case speaks && !regtype.UnderState(n.State, there):
					return verdict{e: api.ErrProve, gate: gate, pc: pc, by: byState}
				case !speaks && n.Pc <= pc:
					return verdict{e: api.ErrProve, gate: gate, pc: pc, by: byUnsaid}
				}
				came[n.Pc] = append(came[n.Pc], n.State)
			}
		}
		v.table = append(v.table, states)
	}
	return v
}

// modelMake does what 22.2's words say: of each instruction it asks all those that are not ahead of it.
func modelMake(m api.Image) (string, api.Errno) {
	r := checker.Check(m)
	if image.Right(m) != api.OK || r.Reason != api.Fine {
		return "", api.ErrCheck
	}
	s := saying(kept(m, r.Table))
	if len(s) > 1048576 {
		return "", api.ErrCert
	}
	return s, api.OK
}

// kept is what a table says of those that are gone back to.
func kept(m api.Image, all api.Table) api.Table {
	t := copied(all)
	for gate, states := range all {
		for pc := range states {
			if !isGoneBackTo(m, gate, pc, states) {
				t[gate][pc] = api.State{}
			}
		}
	}
	return t
}

func isGoneBackTo(m api.Image, gate, pc int, states []api.State) bool {
	for from := pc; from < len(states); from++ {
		if !states[from].Live {
			continue
		}
		next := transfer.Do(m, gate, from, states[from]).Next
		if slices.ContainsFunc(next, func(n api.Succ) bool { return n.Pc == pc }) {
			return true
		}
	}
	return false
}
