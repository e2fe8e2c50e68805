package checker

import (
	"paddock/api"
	"paddock/capword"
)

// reaches is the address from which on an instruction uses so many bytes, and whether B lets it. B must point within its bounds: of one that points elsewhere Access may find its way round behind 2^64 - 1, and Do's sums do not go round.
func (r *row) reaches(i api.Inst, size uint64, p api.Perms) (uint64, bool) {
	b := r.held[i.B].C
	pointsIn := b.Base <= b.Cursor && b.Cursor <= b.End
	return b.Cursor + uint64(i.Imm), pointsIn && capword.Access(b, uint64(i.Imm), size, p) == api.NoFault
}

// inBytes tells whether the bytes that an instruction uses may be used so, and lie in one region of bytes.
func (r *row) inBytes(i api.Inst) bool {
	size, p := use(i.Op)
	at, may := r.reaches(i, size, p)
	for _, g := range r.regions {
		if may && len(g.Slots) == 0 && g.Base <= at && at+size <= g.Base+g.Len {
			return true
		}
	}
	return false
}

// use is how many bytes are used by LB, LW, SB and SW, and for what.
func use(op api.Op) (uint64, api.Perms) {
	switch op {
	case api.LB:
		return 1, api.Load
	case api.LW:
		return 8, api.Load
	case api.SB:
		return 1, api.Store
	}
	return 8, api.Store
}

// slot is the type of the capability's place that an instruction uses, if it may.
func (r *row) slot(i api.Inst, p api.Perms) (api.Type, bool) {
	at, may := r.reaches(i, api.Granule, p)
	for _, g := range r.regions {
		for k, s := range g.Slots {
			if may && at == g.Base+uint64(k)*api.Granule {
				return s.Type, true
			}
		}
	}
	return api.Type{}, false
}
