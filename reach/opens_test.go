package reach_test

import (
	"slices"
	"strconv"
	"testing"

	"paddock/api"
	"paddock/reach"
)

// checkOpens asks whether an authority opens what has a seal; by Dom, and by Within, too.
func checkOpens(t *testing.T, what string, by api.Cap, seal int, want bool) {
	t.Helper()
	shut := of(100, 200, 150, rw, seal)
	l := caps(by, shut)
	if want {
		l = append(l, sealed(shut, 0))
	}
	slices.SortFunc(l, byWords)
	checkDom(t, "14.2: "+what, nil, caps(by, shut), l)
	checkWithin(t, "14.2: "+what, caps(sealed(shut, 0)), caps(by, shut), want)
}

// checkMakes asks whether an authority makes a seal.
func checkMakes(t *testing.T, what string, by api.Cap, seal int, want bool) {
	t.Helper()
	open := of(100, 200, 150, rw, 0)
	checkWithin(t, "14.2: "+what, caps(sealed(open, seal)), caps(by, open), want)
	checkDom(t, "14.3: nothing is sealed: "+what, nil, caps(by, open), reach.Dom(nil, open, by))
}

// TestSealsFromBaseToEnd: at Base, just below End, and beside them.
func TestSealsFromBaseToEnd(t *testing.T) {
	for base := range uint64(20) {
		for end := range uint64(20) {
			for seal := 1; seal < 20; seal++ {
				within := base <= uint64(seal) && uint64(seal) < end
				what := "the seal " + strconv.Itoa(seal)
				checkOpens(t, what, of(base, end, 0, api.Unseal, 0), seal, within)
				checkMakes(t, what, of(base, end, 0, api.Seal, 0), seal, within && seal <= api.MaxSeal)
			}
		}
	}
}

// TestSealsThatCannotBe: a seal is opened wherever it lies in the bounds, as the words of 14.2 name no greatest one; it is made from 1 to MaxSeal.
func TestSealsThatCannotBe(t *testing.T) {
	all, opens := of(0, top, 5, api.Seal, 0), of(0, top, 5, api.Unseal, 0)
	for _, seal := range []int{16, 17, 255, 256, 1 << 32, 1<<63 - 1} {
		what := "the seal " + strconv.Itoa(seal)
		checkOpens(t, what, opens, seal, true)
		checkOpens(t, what+" at Base", of(uint64(seal), uint64(seal)+1, 0, api.Unseal, 0), seal, true)
		checkOpens(t, what+" at End", of(0, uint64(seal), 0, api.Unseal, 0), seal, false)
		checkMakes(t, what, all, seal, false)
	}
	for _, seal := range []int{-1, -2, -15, -16, -256, -1 << 32, -1 << 63} {
		what := "the seal " + strconv.Itoa(seal)
		checkOpens(t, what, opens, seal, false)
		checkOpens(t, what+" at Base", of(uint64(seal), top, 0, api.Unseal, 0), seal, false)
		checkOpens(t, what+", which goes round", of(uint64(seal), uint64(seal)+1, 0, api.Unseal, 0), seal, false)
		checkOpens(t, what+", without its sign", of(0, 20, 0, api.Unseal, 0), seal, false)
		checkMakes(t, what, all, seal, false)
		checkMakes(t, what+" at Base", of(uint64(seal), top, 0, api.Seal, 0), seal, false)
		checkMakes(t, what+", which goes round", of(uint64(seal), uint64(seal)+1, 0, api.Seal, 0), seal, false)
	}
}

// TestAuthorities: open ones with the permission, whatever else they have; where they point does not matter.
func TestAuthorities(t *testing.T) {
	for n := range 256 {
		p := api.Perms(n)
		what := "with the permissions " + strconv.Itoa(n)
		checkOpens(t, what, of(0, 8, 3, p, 0), 5, p&api.Unseal != 0)
		checkMakes(t, what, of(0, 8, 3, p, 0), 5, p&api.Seal != 0)
	}
	for _, cursor := range []uint64{0, 1, 5, 7, 8, 9, 1 << 32, top} {
		checkOpens(t, "pointing elsewhere", of(0, 8, cursor, api.Unseal, 0), 5, true)
		checkMakes(t, "pointing elsewhere", of(0, 8, cursor, api.Seal, 0), 5, true)
		checkOpens(t, "pointing elsewhere", of(6, 8, cursor, api.Unseal, 0), 5, false)
		checkMakes(t, "pointing elsewhere", of(6, 8, cursor, api.Seal, 0), 5, false)
	}
	for _, seal := range []int{1, 9, 15, 16, -1, -1 << 63} {
		checkOpens(t, "a sealed one opens nothing", of(0, 8, 5, api.Unseal, seal), 5, false)
		checkMakes(t, "a sealed one makes nothing", of(0, 8, 5, api.Seal, seal), 5, false)
	}
	for _, by := range caps(of(5, 5, 5, 127, 0), of(6, 5, 5, 127, 0), of(8, 0, 5, 127, 0), of(top, 0, 5, 127, 0), of(5, 0, 5, 127, 0)) {
		checkOpens(t, "one without numbers", by, 5, false)
		checkMakes(t, "one without numbers", by, 5, false)
	}
}

// TestOneThatItOpensItself: the seal of an authority is in its own bounds, but it is not open.
func TestOneThatItOpensItself(t *testing.T) {
	u := sealed(opener(), 5)
	checkDom(t, "14.2: none opens itself", nil, caps(u), caps(u))
	two := sealed(of(0, 8, 2, api.Unseal, 0), 3)
	checkDom(t, "14.2: nor two one another", nil, caps(u, two), caps(u, two))
	checkWithin(t, "14.2: none opens itself", caps(opener()), caps(u), false)
}

// TestOpenedByTurns: what is opened shows more, what is shown opens more, what is opened opens more.
func TestOpenedByTurns(t *testing.T) {
	at := func(n uint64) api.Cap { return of(n, n+16, n, api.LoadCap, 0) }
	key := func(n uint64) api.Cap { return of(n, n+1, 0, api.Unseal, 0) }
	m := memory(t, map[uint64]api.Cap{16: key(2), 32: sealed(at(48), 3), 48: sealed(key(3), 2), 64: sealed(bytes16(), 1)})
	// By 1 the place 16 is opened, which shows 2, which opens the place 32, which shows the place 48, shut by 3.
	from := caps(key(1), sealed(at(16), 1), sealed(at(32), 2))
	want := reach.Dom(nil, append(from, at(16), key(2), at(32), sealed(at(48), 3))...)
	checkDom(t, "14.3: by turns", m, from, want)
	// With 3 the place 48 is opened, too, which shows what 2 opens.
	from = append(from, key(3))
	want = reach.Dom(nil, append(want, key(3), at(48), sealed(key(3), 2))...)
	checkDom(t, "14.3: by turns, to the end", m, from, want)
	// Without 1 nothing of it comes.
	checkDom(t, "14.3: by turns, without the first", m, from[1:3], from[1:3])
}

// TestAuthorityThatIsOpened: it opens, then, what waited for it.
func TestAuthorityThatIsOpened(t *testing.T) {
	var from, want []api.Cap
	for n := range uint64(15) {
		key := of(n, n+1, 0, api.Unseal, 0)
		shut := sealed(of(0, 16, n, api.Load, 0), int(n))
		from = append(from, shut, sealed(key, int(n+1)))
		want = append(want, shut, sealed(shut, 0), key, sealed(key, int(n+1)))
	}
	last := of(15, 16, 0, api.Unseal, 0)
	checkDom(t, "14.3: a row of authorities", nil, append(slices.Clone(from), last), reach.Dom(nil, append(want, last)...))
	checkDom(t, "14.3: a row of authorities, without the last", nil, from, reach.Dom(nil, from...))
}
