package transfer

import (
	"paddock/api"
	"paddock/regtype"
)

// loads is what reads so many bytes, which are a number of a span.
func (x *spot) loads(size uint64, numbers api.Span) effect {
	return func() api.Step {
		if why := first(x.usable(size, api.Load), x.inBytes(size)); why != api.Fine {
			return refused(why)
		}
		return x.lay(regtype.Int(numbers))
	}
}

// stores is what writes so many bytes.
func (x *spot) stores(size uint64) effect {
	return func() api.Step {
		if why := first(anInt(x.a()), x.usable(size, api.Store), x.inBytes(size)); why != api.Fine {
			return refused(why)
		}
		return x.stays()
	}
}

func (x *spot) loadsCap() api.Step {
	t, found := x.slot()
	if why := first(x.usable(api.Granule, api.LoadCap), found); why != api.Fine {
		return refused(why)
	}
	return x.lay(regtype.Of(t))
}

func (x *spot) storesCap() api.Step {
	t, found := x.slot()
	fits := unless(regtype.Sure(x.a(), t), api.RSlot)
	if why := first(x.usable(api.Granule, api.StoreCap), found, fits); why != api.Fine {
		return refused(why)
	}
	return x.stays()
}

// usable tells whether B may surely be used for something, so many bytes of it.
func (x *spot) usable(size uint64, p api.Perms) api.Reason {
	b := x.b()
	return first(aCap(b), unsealed(b), may(b, p), reaches(b, x.inst.Imm, size))
}

// inBytes tells whether the bytes that are meant surely lie in one region of bytes.
func (x *spot) inBytes(size uint64) api.Reason {
	from, to := bytesOf(x.b(), x.inst.Imm, size)
	for _, r := range x.program.Regions {
		begin := wholeOf(r.Base)
		if len(r.Slots) == 0 && !from.below(begin) && !begin.plus(wholeOf(r.Len)).below(to) {
			return api.Fine
		}
	}
	return api.RBytes
}

// slot is the type of the capability's place that is meant.
func (x *spot) slot() (api.Type, api.Reason) {
	b := x.b()
	// What goes round is not usable, so that it does not matter what is found there.
	at := b.Point.Lo + uint64(x.inst.Imm)
	t, there := slotAt(x.program.Regions, at)
	return t, first(unless(single(b.Point), api.RSlot), unless(at%api.Granule == 0, api.RAlign), unless(there, api.RSlot))
}

// slotAt is the type of the first slot that has an address.
func slotAt(regions []api.Region, at uint64) (api.Type, bool) {
	for _, r := range regions {
		if at < r.Base || (at-r.Base)%api.Granule != 0 {
			continue
		}
		if k := (at - r.Base) / api.Granule; k < uint64(len(r.Slots)) {
			return r.Slots[k].Type, true
		}
	}
	return api.Type{}, false
}
