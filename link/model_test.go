package link_test

import (
	"fmt"
	"regexp"
	"slices"

	"paddock/api"
	"paddock/image"
)

// A plain reading of the chapter, word by word, without a thought of how long it takes.

var mayBe = regexp.MustCompile(`^[a-zA-Z0-9_]{1,16}$`)

// rightBy is 17.1.
func rightBy(m api.Module) api.Errno {
	if e := image.Right(m.Image); e != api.OK {
		return e
	}
	right := len(m.Names) == len(m.Image.Gates)
	count := map[string]int{}
	for _, name := range m.Names {
		count[name]++
		right = right && (name == "" || mayBe.MatchString(name) && count[name] == 1)
	}
	for k, n := range m.Needs {
		right = right && n.Gate >= 0 && n.Gate < len(m.Image.Gates) && mayBe.MatchString(n.Name)
		right = right && (k == 0 || m.Needs[k-1].Gate < n.Gate) && m.Names[n.Gate] == ""
	}
	if !right {
		return api.ErrModule
	}
	return api.OK
}

// bytesOf are the addresses of a module's regions.
func bytesOf(m api.Module) map[uint64]int {
	all := map[uint64]int{}
	for _, r := range m.Image.Regions {
		for n := range r.Len {
			all[r.Base+n]++
		}
	}
	return all
}

func regionsMeet(l []api.Module, k int) bool {
	mine := bytesOf(l[k])
	for _, m := range l[:k] {
		for at := range bytesOf(m) {
			if mine[at] > 0 {
				return true
			}
		}
	}
	return false
}

func nameIsThere(l []api.Module, k int) bool {
	for _, m := range l[:k] {
		for _, name := range l[k].Names {
			if name != "" && slices.Contains(m.Names, name) {
				return true
			}
		}
	}
	return false
}

func needIsNotThere(l []api.Module, k int) bool {
	for _, n := range l[k].Needs {
		isThere := false
		for other, m := range l {
			isThere = isThere || other != k && slices.Contains(m.Names, n.Name)
		}
		if !isThere {
			return true
		}
	}
	return false
}

// place is a gate of one of the modules.
type place struct{ module, gate int }

// has is the gate that has a name.
func has(l []api.Module, name string) place {
	for k, m := range l {
		if gate := slices.Index(m.Names, name); gate >= 0 {
			return place{k, gate}
		}
	}
	return place{-1, -1}
}

func needIsUnlike(l []api.Module, k int) bool {
	for _, n := range l[k].Needs {
		p := has(l, n.Name)
		a, b := l[k].Image.Gates[n.Gate], l[p.module].Image.Gates[p.gate]
		if fmt.Sprint(a.Args, a.Results) != fmt.Sprint(b.Args, b.Results) {
			return true
		}
	}
	return false
}

func areTooMany(l []api.Module, k int) bool {
	regions, comps := 0, 0
	for _, m := range l[:k+1] {
		regions, comps = regions+len(m.Image.Regions), comps+len(m.Image.Comps)
	}
	return regions > api.MaxRegions || comps > api.MaxComps || len(places(l[:k+1])) > api.MaxGates
}

// wrongBy is 17.2.
func wrongBy(l []api.Module) (api.Errno, int) {
	if len(l) == 0 {
		return api.ErrModule, 0
	}
	for k, m := range l {
		if e := rightBy(m); e != api.OK {
			return e, k
		}
	}
	for _, r := range []struct {
		err    api.Errno
		broken func([]api.Module, int) bool
	}{{api.ErrRegion, regionsMeet}, {api.ErrNeed, nameIsThere}, {api.ErrNeed, needIsNotThere}, {api.ErrMatch, needIsUnlike}, {api.ErrCount, areTooMany}} {
		for k := range l {
			if r.broken(l, k) {
				return r.err, k
			}
		}
	}
	return api.OK, 0
}

// needAt is what a gate stands for; the empty text, if for nothing.
func needAt(m api.Module, gate int) string {
	for _, n := range m.Needs {
		if n.Gate == gate {
			return n.Name
		}
	}
	return ""
}

// places are the gates of the whole, in their order.
func places(l []api.Module) []place {
	var all []place
	for k, m := range l {
		for gate := range m.Image.Gates {
			if needAt(m, gate) == "" {
				all = append(all, place{k, gate})
			}
		}
	}
	return all
}

// toldAnew is the gate of the whole that a CALL in a module means.
func toldAnew(l []api.Module, p place) int {
	if name := needAt(l[p.module], p.gate); name != "" {
		p = has(l, name)
	}
	return slices.Index(places(l), p)
}

// madeOf is 17.3.
func madeOf(l []api.Module) api.Module {
	var all api.Module
	ahead := make([]int, len(l))
	for k, m := range l {
		ahead[k] = len(all.Image.Comps)
		all.Image.Depth = max(all.Image.Depth, m.Image.Depth)
		for _, c := range m.Image.Comps {
			code := slices.Clone(c.Code)
			for pc, i := range code {
				if i.Op == api.CALL {
					code[pc].Imm = toldAnew(l, place{k, i.Imm})
				}
			}
			all.Image.Comps = append(all.Image.Comps, api.Comp{Roots: c.Roots, Code: code})
		}
	}
	// All bases that can be, from the lowest on.
	for granule := range uint64(api.MaxMem / api.Granule) {
		for _, m := range l {
			for _, r := range m.Image.Regions {
				if r.Base == granule*api.Granule {
					all.Image.Regions = append(all.Image.Regions, r)
				}
			}
		}
	}
	for _, p := range places(l) {
		g := l[p.module].Image.Gates[p.gate]
		g.Comp += ahead[p.module]
		all.Image.Gates = append(all.Image.Gates, g)
		all.Names = append(all.Names, l[p.module].Names[p.gate])
	}
	return loose(all)
}
