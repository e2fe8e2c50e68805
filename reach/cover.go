package reach

import (
	"cmp"
	"slices"

	"paddock/api"
)

// cover tells of a list whether a capability is under one of it (chapter 1), without going through all of it: by seal, it has a row for all that have the same permissions.
type cover map[int][]row

// row is the bounds of capabilities that are alike but for these and for where they point.
type row struct {
	perms api.Perms
	bases []uint64 // rising, each once
	ends  []uint64 // for each Base: the greatest End of those whose Base is not above it
}

func coverOf(l []api.Cap) cover {
	sorted := slices.Clone(l)
	slices.SortFunc(sorted, func(a, b api.Cap) int {
		return cmp.Or(cmp.Compare(a.Perms, b.Perms), cmp.Compare(a.Base, b.Base))
	})
	v := cover{}
	for _, c := range sorted {
		v.add(c)
	}
	return v
}

// add takes in one that has no smaller permissions, and with the same ones no smaller Base, than those ahead of it.
func (v cover) add(c api.Cap) {
	rows := v[c.Seal]
	if len(rows) == 0 || rows[len(rows)-1].perms != c.Perms {
		rows = append(rows, row{perms: c.Perms})
	}
	rows[len(rows)-1].add(c.Base, c.End)
	v[c.Seal] = rows
}

func (r *row) add(base uint64, end uint64) {
	if last := len(r.bases) - 1; last >= 0 {
		end = max(end, r.ends[last])
		if r.bases[last] == base {
			r.ends[last] = end
			return
		}
	}
	r.bases, r.ends = append(r.bases, base), append(r.ends, end)
}

// has tells whether a capability is under one of the list.
func (v cover) has(c api.Cap) bool {
	return slices.ContainsFunc(v[c.Seal], func(r row) bool {
		return c.Perms&^r.perms == 0 && r.has(c.Base, c.End)
	})
}

// has tells whether there are bounds in a row that go as far down, and as far up.
func (r row) has(base uint64, end uint64) bool {
	k, there := slices.BinarySearch(r.bases, base)
	if !there {
		k--
	}
	return k >= 0 && end <= r.ends[k]
}

// canOpen tells whether a capability is open, or one of the list opens it.
func (v cover) canOpen(c api.Cap) bool {
	return c.Seal == 0 || c.Seal > 0 && v.has(keyTo(c.Seal, api.Unseal))
}

// canSeal tells whether a capability is open, or one of the list makes its seal.
func (v cover) canSeal(c api.Cap) bool {
	return c.Seal == 0 || c.Seal > 0 && c.Seal <= api.MaxSeal && v.has(keyTo(c.Seal, api.Seal))
}

// keyTo is the least authority over a seal: what is over it is over that.
func keyTo(seal int, p api.Perms) api.Cap {
	return api.Cap{Base: uint64(seal), End: uint64(seal) + 1, Perms: p}
}

// bared are those of a list that are open, or can be opened, as open ones.
func (v cover) bared(l []api.Cap) []api.Cap {
	var bare []api.Cap
	for _, c := range l {
		if v.canOpen(c) {
			bare = append(bare, opened(c))
		}
	}
	return bare
}
