package image

import (
	"strings"

	"paddock/api"
)

// copied is a list of new memory, each element copied by itself.
func copied[T any](l []T, one func(T) T) []T {
	var n []T
	for _, x := range l {
		n = append(n, one(x))
	}
	return n
}

// fresh is a list of new memory, of elements that hold no lists.
func fresh[T any](l []T) []T {
	return append([]T(nil), l...)
}

func copyRegion(r api.Region) api.Region {
	r.Data = strings.Clone(r.Data)
	r.Slots = fresh(r.Slots)
	return r
}

func copyComp(c api.Comp) api.Comp {
	return api.Comp{Roots: fresh(c.Roots), Code: fresh(c.Code)}
}

func copyGate(g api.Gate) api.Gate {
	g.Args, g.Results = fresh(g.Args), fresh(g.Results)
	return g
}
