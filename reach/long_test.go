package reach_test

import (
	"slices"
	"testing"

	"paddock/api"
	"paddock/reach"
)

const long = 1 << 17

func made(size int, of func(n uint64) api.Cap) []api.Cap {
	var l []api.Cap
	for n := range uint64(size) {
		l = append(l, of(n))
	}
	return l
}

// TestLongLists: however long they are, nothing is gone through again for each of them.
func TestLongLists(t *testing.T) {
	t.Parallel()
	back := made(long, func(n uint64) api.Cap { return of(long-n, long, 0, rw, 0) })
	want := slices.Clone(back)
	slices.Reverse(want)
	checkCaps(t, "14.3: a long list", reach.Dom(nil, back...), want)
	if l := reach.Dom(nil, slices.Repeat(caps(bytes16()), long)...); len(l) != 1 {
		t.Errorf("14.3: each once: %d", len(l))
	}
	if !reach.Within(back, want) || !reach.Within(want, back) {
		t.Error("14.7: a long list is not within itself")
	}
	narrow := made(long, func(n uint64) api.Cap { return of(2*n, 2*n+2, 0, rw, 0) })
	if !reach.Within(made(long, func(n uint64) api.Cap { return of(2*n+1, 2*n+2, 0, api.Load, 0) }), narrow) {
		t.Error("14.4: a long list of narrower ones is not within")
	}
	if reach.Within(made(long, func(n uint64) api.Cap { return of(2*n+1, 2*n+2+n/(long-1), 0, api.Load, 0) }), narrow) {
		t.Error("14.4: a long list is within, though the last has one byte more")
	}
	if !reach.Covers(narrow, api.Touch{Addr: 2 * (long - 1), Size: 2}) || reach.Covers(narrow, api.Touch{Addr: 2*long - 1, Size: 2}) {
		t.Error("14.5: a long list")
	}
}

// TestManyReaders: each has all of memory.
func TestManyReaders(t *testing.T) {
	t.Parallel()
	places := map[uint64]api.Cap{}
	for n := range uint64(4096) {
		places[16*n] = of(n, top, 0, 0, 0)
	}
	l := reach.Dom(memory(t, places), made(long, func(n uint64) api.Cap { return of(0, top, n, api.LoadCap, 0) })...)
	if len(l) != long+4096 {
		t.Errorf("14.3: %d, want all readers and what each place holds", len(l))
	}
}

// TestManySeals: each is opened by an authority of its own, which is sealed by the next one.
func TestManySeals(t *testing.T) {
	t.Parallel()
	key := func(n uint64) api.Cap { return of(n, n+1, 0, api.Unseal, int(n)+1) }
	from := made(long, key)
	if l := reach.Dom(nil, from...); len(l) != long {
		t.Errorf("14.3: nothing opens the last, and %d came to %d", long, len(l))
	}
	all := append(from, of(long, long+1, 0, api.Unseal, 0))
	if l := reach.Dom(nil, all...); len(l) != 2*long+1 {
		t.Errorf("14.3: all are opened, and %d came to %d", long+1, len(l))
	}
	wide := made(long, func(n uint64) api.Cap { return of(0, top, n, api.Unseal, 0) })
	if l := reach.Dom(nil, append(wide, from...)...); len(l) != 3*long {
		t.Errorf("14.3: each opens all, and %d came to %d", 2*long, len(l))
	}
	// In one list the open ones open the others at once.
	open := made(long, func(n uint64) api.Cap { return sealed(key(n), 0) })
	shut := made(long, func(n uint64) api.Cap { return of(n, n+2, 0, rw, int(n)) })
	if !reach.Within(made(long, func(n uint64) api.Cap { return of(n, n+1, 0, rw, 0) }), append(shut, open...)) {
		t.Error("14.4: those that are opened do not give what is narrower")
	}
	if reach.Within(caps(of(5, 6, 0, rw, 0)), append(shut, open[6:]...)) {
		t.Error("14.4: one that nothing opens gives something")
	}
}
