package tagmem

import "paddock/api"

// place is what a granule holds beside its bytes: a capability, if it has a tag; else nothing.
type place struct {
	tag bool
	c   api.Cap
}

// capPage is the places of a page's granules.
type capPage [pageSize / api.Granule]place

// capPages are the capabilities in memory. A page into which none was ever stored is not there.
type capPages [pageCount]*capPage

// at is the place of an address's granule; nil, if no page is there.
func (p *capPages) at(addr uint64) *place {
	if piece := p[addr/pageSize]; piece != nil {
		return &piece[addr%pageSize/api.Granule]
	}
	return nil
}

// held is the capability of an address's granule; false, if that has no tag.
func (p *capPages) held(addr uint64) (api.Cap, bool) {
	if g := p.at(addr); g != nil {
		return g.c, g.tag
	}
	return api.Cap{}, false
}

func (p *capPages) hold(addr uint64, c api.Cap) {
	if piece := &p[addr/pageSize]; *piece == nil {
		*piece = new(capPage)
	}
	*p.at(addr) = place{tag: true, c: c}
}

// forget takes away the tag of each granule of which one of these bytes is a part.
func (p *capPages) forget(addr uint64, size uint64) {
	for a := addr; a < addr+size; a += api.Granule - a%api.Granule {
		if g := p.at(a); g != nil {
			*g = place{}
		}
	}
}

// places are the addresses of all granules with a tag, rising.
func (p *capPages) places() []uint64 {
	var l []uint64
	for i, piece := range p {
		if piece == nil {
			continue
		}
		for j, g := range piece {
			if g.tag {
				l = append(l, uint64(i*pageSize+j*api.Granule))
			}
		}
	}
	return l
}
