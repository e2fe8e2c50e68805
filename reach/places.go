package reach

import (
	"paddock/api"
	"paddock/image"
	"paddock/tagmem"
)

// place is a capability's place in memory, and what it shows.
type place struct {
	addr  uint64
	holds api.Cap
}

// held are the places of a memory that hold capabilities, rising.
func held(m *tagmem.Tagged) []place {
	var l []place
	for _, addr := range m.Tags() {
		v, _ := m.LoadCap(addr)
		l = append(l, place{addr, v.C})
	}
	return l
}

// declared are the slots of a right program's regions, rising. Each shows its type, whatever lies there at some time.
func declared(regions []api.Region) []place {
	var l []place
	for _, r := range regions {
		for n, s := range r.Slots {
			l = append(l, place{r.Base + uint64(n)*api.Granule, lowest(s.Type)})
		}
	}
	return l
}

// lowest is the capability of a type that stands for all of them, as where one points does not matter.
func lowest(t api.Type) api.Cap { return image.CapOf(t, t.Lo) }

func addresses(places []place) []uint64 {
	l := make([]uint64, len(places))
	for k, p := range places {
		l[k] = p.addr
	}
	return l
}
