package link

import (
	"cmp"
	"slices"
	"strings"

	"paddock/api"
	"paddock/image"
)

// joined is the module that is made of those that can be linked.
func joined(l []api.Module, homes map[string]home) api.Module {
	own := ownNumberings(l)
	named := func(name string) int {
		h := homes[name]
		return own[h.module](h.gate)
	}
	var all api.Module
	for k, m := range l {
		lay(&all, m, calledBy(m.Needs, own[k], named))
	}
	slices.SortFunc(all.Image.Regions, func(a, b api.Region) int { return cmp.Compare(a.Base, b.Base) })
	return all
}

// lay puts a module behind what is there already, in new memory.
func lay(all *api.Module, m api.Module, called numbering) {
	comp := behind(len(all.Image.Comps))
	p := image.Copy(m.Image)
	for _, c := range p.Comps {
		callAnew(c.Code, called)
	}
	all.Image.Depth = max(all.Image.Depth, p.Depth)
	all.Image.Regions = append(all.Image.Regions, p.Regions...)
	all.Image.Comps = append(all.Image.Comps, p.Comps...)
	for k, g := range p.Gates {
		if _, isNeed := needAt(m.Needs, k); isNeed {
			continue
		}
		g.Comp = comp(g.Comp)
		all.Image.Gates = append(all.Image.Gates, g)
		all.Names = append(all.Names, strings.Clone(m.Names[k]))
	}
}

func callAnew(code []api.Inst, called numbering) {
	for k := range code {
		if code[k].Op == api.CALL {
			code[k].Imm = called(code[k].Imm)
		}
	}
}
