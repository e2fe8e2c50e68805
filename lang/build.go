package lang

import "paddock/api"

const wordBytes = 8

// width is how many bytes an element has.
func (r *region) width() int {
	if r.words {
		return wordBytes
	}
	return 1
}

// room is how many bytes a region takes: whole granules.
func (r *region) room() int {
	return (r.size.n*r.width() + api.Granule - 1) / api.Granule * api.Granule
}

// build makes the image of a program that may be.
func build(p *program) api.Image {
	m := api.Image{Depth: api.MaxDepth}
	base := 0
	for _, r := range p.regions {
		r.base = base
		base += r.room()
		m.Regions = append(m.Regions, api.Region{Base: uint64(r.base), Len: uint64(r.room())})
	}
	for k, c := range p.comps {
		var w writer
		for _, f := range c.functions {
			m.Gates = append(m.Gates, api.Gate{Comp: k, Entry: len(w.code), Args: argTypes(f), Results: make([]api.Type, 1)})
			w.function(f)
		}
		m.Comps = append(m.Comps, api.Comp{Roots: roots(c), Code: w.code})
	}
	return m
}

// lend is the capability of a region, as it is lent.
func (u *use) lend() api.Cap {
	base := uint64(u.is.base)
	perms := api.Load
	if u.stores {
		perms |= api.Store
	}
	return api.Cap{Base: base, End: base + uint64(u.is.room()), Cursor: base, Perms: perms}
}

func roots(c *comp) []api.Root {
	var l []api.Root
	for k, u := range c.head {
		l = append(l, api.Root{Reg: rootReg(k), Cap: u.lend()})
	}
	return l
}

func argTypes(f *function) []api.Type {
	l := make([]api.Type, len(f.params))
	for k, p := range f.params {
		if p.lent != nil {
			c := p.lent.lend()
			l[k] = api.Type{Cap: true, Base: c.Base, End: c.End, Lo: c.Cursor, Hi: c.Cursor, Perms: c.Perms}
		}
	}
	return l
}
