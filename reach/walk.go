package reach

import (
	"cmp"
	"iter"
	"slices"

	"paddock/api"
)

// walk goes from capabilities to those that they show and open. A place shows the same to all, and what is sealed is the same, whoever opens it: so each place is shown once, and each seal opened once, which is why it ends.
type walk struct {
	list    []api.Cap // what has been come to so far
	places  []place
	unseen  *marks      // the places' addresses; those that were shown are taken
	shut    *marks      // the seals that can be opened; those that were are taken
	waiting [][]api.Cap // for each seal, opened: those that came sealed by it while nothing opened it
}

// comeTo is, in order, all that can be come to from some through places, which rise.
func comeTo(places []place, from []api.Cap) []api.Cap {
	seals := sealsOf(places, from)
	w := walk{
		list:    slices.Clone(from),
		places:  places,
		unseen:  marksOf(addresses(places)),
		shut:    marksOf(seals),
		waiting: make([][]api.Cap, len(seals)),
	}
	for c := range w.all() {
		w.use(c)
	}
	return inOrder(w.list)
}

// all goes through the list, and on through what comes to lie behind it meanwhile.
func (w *walk) all() iter.Seq[api.Cap] {
	return func(yield func(api.Cap) bool) {
		for k := 0; k < len(w.list); k++ {
			if !yield(w.list[k]) {
				return
			}
		}
	}
}

// use lays behind the list what a capability shows and opens, and what it is, if it is opened.
func (w *walk) use(c api.Cap) {
	if c.Seal != 0 {
		w.await(c)
		return
	}
	if c.Perms&api.LoadCap != 0 {
		for k := range w.unseen.take(c, api.Granule) {
			w.list = append(w.list, w.places[k].holds)
		}
	}
	if c.Perms&api.Unseal != 0 {
		for k := range w.shut.take(c, 1) {
			w.list = append(w.list, w.waiting[k]...)
		}
	}
}

// await opens a sealed one, if something that came opens it; else it waits for that.
func (w *walk) await(c api.Cap) {
	k, there := w.shut.find(uint64(c.Seal))
	switch {
	case !there:
		// A seal below 0: nothing opens it.
	case w.shut.isTaken(k):
		w.list = append(w.list, opened(c))
	default:
		w.waiting[k] = append(w.waiting[k], opened(c))
	}
}

// sealsOf are the seals of all that may be come to, as far as there may be something that opens them: rising, each once.
func sealsOf(places []place, from []api.Cap) []uint64 {
	var l []uint64
	note := func(c api.Cap) {
		if c.Seal > 0 {
			l = append(l, uint64(c.Seal))
		}
	}
	for _, p := range places {
		note(p.holds)
	}
	for _, c := range from {
		note(c)
	}
	slices.Sort(l)
	return slices.Compact(l)
}

// inOrder sorts a list, in its own memory, and leaves each once.
func inOrder(l []api.Cap) []api.Cap {
	slices.SortFunc(l, func(a, b api.Cap) int {
		return cmp.Or(
			cmp.Compare(a.Base, b.Base),
			cmp.Compare(a.End, b.End),
			cmp.Compare(a.Cursor, b.Cursor),
			cmp.Compare(a.Perms, b.Perms),
			cmp.Compare(a.Seal, b.Seal),
		)
	})
	return slices.Compact(l)
}
