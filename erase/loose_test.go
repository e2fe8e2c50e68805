package erase_test

import (
	"paddock/api"
	"paddock/regtype"
	"paddock/transfer"
)

// spread lays a state at an instruction, beside what is there, and all that comes of it, until a gate's row is settled; false, if too little is known then.
func spread(m api.Image, gate int, row []api.State, at api.Succ) bool {
	toDo := []api.Succ{at}
	for changes := 0; len(toDo) > 0; changes++ {
		n := toDo[0]
		toDo = toDo[1:]
		now := regtype.JoinState(row[n.Pc], n.State)
		if changes > 100 {
			now = regtype.WidenState(row[n.Pc], now)
		}
		if now == row[n.Pc] {
			continue
		}
		row[n.Pc] = now
		d := transfer.Do(m, gate, n.Pc, now)
		if d.Reason != api.Fine {
			return false
		}
		toDo = append(toDo, d.Next...)
	}
	return true
}

// vaguer is a state in which less is known of a register.
func (d dice) vaguer(s api.State) api.State {
	r := &s.Regs[d.IntN(api.Regs)]
	switch {
	case d.IntN(4) == 0:
		*r = api.RType{}
	case r.Kind == api.AnInt:
		*r = regtype.Join(*r, regtype.Int(d.around(r.N)))
	case r.Kind == api.ACap:
		x := *r
		x.Point = d.around(x.Point)
		*r = regtype.Join(*r, x)
	}
	return s
}

// around is a span that may reach beyond another one.
func (d dice) around(s api.Span) api.Span {
	return of(d, api.Span{Lo: s.Lo, Hi: s.Hi + min(8, top-s.Hi)}, api.Span{Lo: s.Lo - min(3, s.Lo), Hi: s.Hi}, api.Span{Lo: 0, Hi: top}, api.Span{Lo: 0, Hi: s.Hi})
}

// loose is a table that is settled and has no Reason, but says less than another one: of registers, and of where nobody comes.
func (d dice) loose(m api.Image, table api.Table) api.Table {
	t := copied(table)
	for gate := range t {
		for range 12 {
			row := copied(t[gate : gate+1])[0]
			pc := d.IntN(len(row))
			s := row[pc]
			if !s.Live {
				s = row[m.Gates[gate].Entry]
			}
			if spread(m, gate, row, api.Succ{Pc: pc, State: d.vaguer(s)}) {
				t[gate] = row
			}
		}
	}
	return t
}
