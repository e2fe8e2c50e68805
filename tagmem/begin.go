package tagmem

import (
	"paddock/api"
	"paddock/image"
)

// layData lays a region's bytes, as far as they lie in memory.
func (m *Tagged) layData(base uint64, data string) {
	data = lying(base, data)
	m.bytes.lay(base, data)
	m.caps.forget(base, uint64(len(data)))
}

// laySlots stores what a region's slots hold at first, up to one for which StoreCap has an error: all behind that one have it, too, as their addresses are no better aligned and do not go round.
func (m *Tagged) laySlots(base uint64, slots []api.Slot) {
	for n, s := range slots {
		if m.StoreCap(base+uint64(n)*api.Granule, firstOf(s)) != api.OK {
			return
		}
	}
}

// firstOf is what a slot holds at first.
func firstOf(s api.Slot) api.Value {
	if s.Type.Cap {
		return api.Value{Tag: true, C: image.CapOf(s.Type, s.Cursor)}
	}
	return api.Value{N: s.Cursor}
}
