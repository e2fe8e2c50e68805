package reach_test

import (
	"slices"
	"strconv"
	"testing"

	"paddock/api"
	"paddock/reach"
)

// TestFromNothing: and without a memory.
func TestFromNothing(t *testing.T) {
	c, r := bytes16(), reader()
	m := memory(t, map[uint64]api.Cap{32: c})
	checkDom(t, "14.3: from nothing", m, nil, nil)
	checkDom(t, "14.3: from nothing, in no memory", nil, nil, nil)
	checkDom(t, "14.3: in no memory", nil, caps(r), caps(r))
	checkDom(t, "14.3: in no memory what is opened comes, too", nil, caps(opener(), sealed(r, 5)), caps(opener(), r, sealed(r, 5)))
	checkDom(t, "14.3: in an empty memory", memory(t, nil), caps(of(0, top, 0, 255, 0)), caps(of(0, top, 0, 255, 0)))
}

// ordered are capabilities in order, of which each differs from the one ahead of it first by what its place tells; what comes behind that would have it the other way round.
func ordered() []api.Cap {
	return caps(
		of(0, 9, 9, 9, 9),
		of(0, 10, 8, 9, 9),  // End, as a number
		of(1, 0, 9, 9, 9),   // Base
		of(1, 0, 10, 8, 9),  // Cursor
		of(1, 0, 10, 9, -3), // Perms
		of(1, 0, 10, 9, -2), // Seal
		of(1, 0, 10, 9, 0),
		of(1, 0, 10, 9, 9),
		of(1, 0, 10, 9, 10),
		of(1, 0, 10, 128, -9), // Perms, with one that has no name
		of(1, 0, 1<<63, 0, 0), // Cursor, of which the highest bit is no sign
		of(1, 0, top, 0, 0),
		of(1, 1<<63, 0, 0, 0),
		of(1, top, 0, 0, 0),
		of(9, 0, 0, 0, 0),
		of(10, 0, 0, 0, 0),
		of(1<<63, 0, 0, 0, 0),
		of(top, 0, 0, 0, -1),
		of(top, 0, 0, 0, 0),
	)
}

func TestInOrder(t *testing.T) {
	all := ordered()
	checkDom(t, "14.3: in order", nil, all, all)
	for i, x := range all {
		for k, y := range all {
			if i < k {
				checkDom(t, "14.3: two in order", nil, caps(y, x), caps(x, y))
			}
		}
		checkDom(t, "14.3: each once", nil, caps(x, x, x), caps(x))
	}
}

// TestOrderOfWhatComes: what is shown and opened stands among what was there, not behind it; and once.
func TestOrderOfWhatComes(t *testing.T) {
	c, r, u := bytes16(), reader(), opener()
	last := of(100, 200, 0, 0, 0)
	m := memory(t, map[uint64]api.Cap{32: c, 48: last, 64: r, 80: u})
	all := of(32, 96, 40, api.LoadCap, 0)
	checkDom(t, "14.3: what is shown stands in order", m, caps(all), caps(u, c, r, all, last))
	checkDom(t, "14.3: what is shown and there already stands there once", m, caps(all, last, u), caps(u, c, r, all, last))
	checkDom(t, "14.3: what is opened and there already stands there once", m, caps(u, c, sealed(c, 3)), caps(u, c, sealed(c, 3)))
	checkDom(t, "14.3: of two that are alike when they are opened", m, caps(u, sealed(c, 4), sealed(c, 3)), caps(u, c, sealed(c, 3), sealed(c, 4)))
}

// TestPlacesThatAreAllWithin goes with both bounds byte by byte about places.
func TestPlacesThatAreAllWithin(t *testing.T) {
	puts := map[uint64]api.Cap{}
	for at := uint64(0); at < 96; at += 16 {
		puts[at] = of(1000+at, 2000, 0, 0, 0)
	}
	m := memory(t, puts)
	for base := range uint64(100) {
		for end := range uint64(100) {
			c := of(base, end, 7, api.LoadCap, 0)
			want := caps(c)
			for at := uint64(0); at < 96; at += 16 {
				if base <= at && at+16 <= end {
					want = append(want, puts[at])
				}
			}
			checkCaps(t, "14.3: from "+strconv.FormatUint(base, 10)+" to "+strconv.FormatUint(end, 10), reach.Dom(m, c), want)
		}
	}
}

// TestEndsOfMemory: the first place and the last one; and bounds that go beyond, or are numbers that would go round.
func TestEndsOfMemory(t *testing.T) {
	first, last := of(1, 1, 1, 1, 1), of(2, 2, 2, 2, 2)
	m := memory(t, map[uint64]api.Cap{0: first, 65520: last})
	for _, x := range []struct {
		base, end   uint64
		first, last bool
	}{
		{0, 65536, true, true}, {0, 65535, true, false}, {1, 65536, false, true}, {0, 1 << 32, true, true}, {0, top, true, true}, {0, top - 15, true, true},
		{65520, 65536, false, true}, {65520, top, false, true}, {65521, 65536, false, false}, {65521, top, false, false}, {65536, top, false, false}, {top, top, false, false},
		{0, 16, true, false}, {0, 15, false, false}, {0, 1, false, false}, {0, 0, false, false},
		{top, 16, false, false}, {top - 15, 16, false, false}, {16, 0, false, false}, {65536, 0, false, false}, {top, 0, false, false}, {1, 0, false, false},
	} {
		c := of(x.base, x.end, 0, api.LoadCap, 0)
		want := caps(c)
		if x.last {
			want = append(want, last)
		}
		if x.first {
			want = append(want, first)
		}
		slices.SortFunc(want, byWords)
		checkDom(t, "14.3: at the ends of memory", m, caps(c), want)
	}
}

// TestWhatShows: an open one with LoadCap, whatever else it has; where it points does not matter.
func TestWhatShows(t *testing.T) {
	c := bytes16()
	m := memory(t, map[uint64]api.Cap{32: c})
	for n := range 256 {
		x := of(32, 48, 32, api.Perms(n), 0)
		want := caps(x)
		if api.Perms(n)&api.LoadCap != 0 {
			want = caps(c, x)
		}
		checkDom(t, "14.3: with the permissions "+strconv.Itoa(n), m, caps(x), want)
	}
	for _, cursor := range []uint64{0, 31, 33, 47, 48, 49, 1 << 32, top} {
		x := of(32, 48, cursor, api.LoadCap, 0)
		checkDom(t, "14.3: pointing elsewhere", m, caps(x), caps(c, x))
	}
	for _, seal := range []int{1, 15, 16, -1, 1 << 40, -1 << 63} {
		x := sealed(reader(), seal)
		checkDom(t, "14.3: sealed, it shows nothing", m, caps(x), caps(x))
	}
}

// TestWhatLiesThere: capabilities alone, as they are, rightly built or not.
func TestWhatLiesThere(t *testing.T) {
	r := of(0, 256, 0, api.LoadCap, 0)
	wrong := of(9, 3, top, 255, -7)
	m := memory(t, map[uint64]api.Cap{32: bytes16(), 64: wrong, 96: reader()})
	m.StoreCap(48, api.Value{N: 5, C: reader()})
	m.Store(100, 1, 9)
	checkDom(t, "14.3: integers are not shown", m, caps(r), caps(bytes16(), r, wrong))
	m.StoreCap(32, holding(sealer()))
	checkDom(t, "14.3: what lies there now", m, caps(r), caps(sealer(), r, wrong))
	m.StoreCap(32, api.Value{})
	m.Store(79, 1, 0)
	checkDom(t, "14.3: nothing lies there any more", m, caps(r), caps(r))
}

// TestRoundsOfPlaces: capabilities that show one another, and themselves.
func TestRoundsOfPlaces(t *testing.T) {
	at := func(n uint64) api.Cap { return of(n, n+16, n, api.LoadCap, 0) }
	m := memory(t, map[uint64]api.Cap{0: at(0), 16: at(32), 32: at(48), 48: at(16), 64: at(80)})
	checkDom(t, "14.3: one that shows itself", m, caps(at(0)), caps(at(0)))
	for _, n := range []uint64{16, 32, 48} {
		checkDom(t, "14.3: a round of three", m, caps(at(n)), caps(at(16), at(32), at(48)))
	}
	checkDom(t, "14.3: one that shows one that shows nothing", m, caps(at(64)), caps(at(64), at(80)))
}

// TestRow: each shows the next one, up to the last place of memory; from the front on, and from the back.
func TestRow(t *testing.T) {
	up, down := map[uint64]api.Cap{}, map[uint64]api.Cap{}
	var all []api.Cap
	for n := range uint64(4096) {
		c := of(16*n, 16*n+16, 0, api.LoadCap, 0)
		all = append(all, c)
		if n > 0 {
			up[16*n-16], down[16*n] = c, all[n-1]
		}
	}
	checkDom(t, "14.3: a row that goes up", memory(t, up), caps(all[0]), all)
	checkDom(t, "14.3: a row that goes up, from the middle", memory(t, up), caps(all[2000]), all[2000:])
	checkDom(t, "14.3: a row that goes down", memory(t, down), caps(all[4095]), all)
	checkDom(t, "14.3: a row that goes down, from the middle", memory(t, down), caps(all[2000]), all[:2001])
}
