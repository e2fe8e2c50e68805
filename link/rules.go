package link

import (
	"slices"

	"paddock/api"
)

// home is the gate that has a name, and its module.
type home struct {
	module, gate int
}

// rule is what right modules must keep to beside one another. It is asked of each in turn, so that it may keep what it saw of those ahead.
type rule struct {
	err    api.Errno
	broken func(k int, m api.Module) bool
}

// firstWrong tells the error of modules that can't be linked, and whose it is. It lays in homes who has which name: all of them, if there is no error.
func firstWrong(l []api.Module, homes map[string]home) (api.Errno, int) {
	if len(l) == 0 {
		return api.ErrModule, 0
	}
	for k, m := range l {
		if e := Right(m); e != api.OK {
			return e, k
		}
	}
	rules := []rule{
		{api.ErrRegion, regionsMeet()},
		{api.ErrNeed, nameTwice(homes)},
		{api.ErrNeed, needUnmet(homes)},
		{api.ErrMatch, needUnlike(l, homes)},
		{api.ErrCount, tooMany()},
	}
	for _, r := range rules {
		for k, m := range l {
			if r.broken(k, m) {
				return r.err, k
			}
		}
	}
	return api.OK, 0
}

func regionsMeet() func(int, api.Module) bool {
	var ahead []api.Region
	return func(_ int, m api.Module) bool {
		for _, r := range m.Image.Regions {
			meets := func(other api.Region) bool {
				return r.Base < other.Base+other.Len && other.Base < r.Base+r.Len
			}
			if slices.ContainsFunc(ahead, meets) {
				return true
			}
		}
		ahead = append(ahead, m.Image.Regions...)
		return false
	}
}

// nameTwice lays the names in homes while it goes on. A right module has none twice itself, so that one that is there is of a module ahead.
func nameTwice(homes map[string]home) func(int, api.Module) bool {
	return func(k int, m api.Module) bool {
		for gate, name := range m.Names {
			if name == "" {
				continue
			}
			if _, isThere := homes[name]; isThere {
				return true
			}
			homes[name] = home{k, gate}
		}
		return false
	}
}

func needUnmet(homes map[string]home) func(int, api.Module) bool {
	return func(k int, m api.Module) bool {
		return slices.ContainsFunc(m.Needs, func(n api.Need) bool {
			h, isThere := homes[n.Name]
			return !isThere || h.module == k
		})
	}
}

func needUnlike(l []api.Module, homes map[string]home) func(int, api.Module) bool {
	return func(_ int, m api.Module) bool {
		return slices.ContainsFunc(m.Needs, func(n api.Need) bool {
			h := homes[n.Name]
			return !sameTypes(m.Image.Gates[n.Gate], l[h.module].Image.Gates[h.gate])
		})
	}
}

func sameTypes(a, b api.Gate) bool {
	return slices.Equal(a.Args, b.Args) && slices.Equal(a.Results, b.Results)
}

func tooMany() func(int, api.Module) bool {
	regions, comps, gates := 0, 0, 0
	return func(_ int, m api.Module) bool {
		regions += len(m.Image.Regions)
		comps += len(m.Image.Comps)
		gates += ownGates(m)
		return regions > api.MaxRegions || comps > api.MaxComps || gates > api.MaxGates
	}
}

// ownGates is how many gates a right module has that stand for no others.
func ownGates(m api.Module) int {
	return len(m.Image.Gates) - len(m.Needs)
}
