package reach_test

import (
	"strconv"
	"testing"

	"paddock/api"
)

func TestListsWithoutElements(t *testing.T) {
	c := bytes16()
	checkWithin(t, "14.4", nil, nil, true)
	checkWithin(t, "14.4", caps(), nil, true)
	checkWithin(t, "14.4", nil, caps(c), true)
	checkWithin(t, "14.4", caps(c), nil, false)
	checkWithin(t, "14.4", caps(api.Cap{}), caps(), false)
	checkWithin(t, "14.4", caps(api.Cap{}), caps(api.Cap{}), true)
}

// TestBounds goes with both bounds of x about those of y, rightly built or not.
func TestBounds(t *testing.T) {
	edges := []uint64{0, 1, 15, 16, 17, 31, 32, 33, 1 << 32, 1 << 63, top - 1, top}
	for _, y := range caps(of(16, 32, 0, rw, 0), of(0, top, 0, rw, 0), of(32, 16, 0, rw, 0), of(16, 16, 0, rw, 0), of(top, top, 0, rw, 0), of(0, 0, 0, rw, 0)) {
		for _, base := range edges {
			for _, end := range edges {
				x := of(base, end, top, rw, 0)
				checkWithin(t, "14.4: bounds", caps(x), caps(y), y.Base <= base && end <= y.End)
			}
		}
	}
}

// TestOneMustHaveAll: two of b that have it together are not enough; each of a may have another one.
func TestOneMustHaveAll(t *testing.T) {
	x := of(0, 32, 0, rw, 0)
	checkWithin(t, "14.4: bounds of two", caps(x), caps(of(0, 16, 0, rw, 0), of(16, 32, 0, rw, 0)), false)
	checkWithin(t, "14.4: bounds of two", caps(x), caps(of(0, 31, 0, rw, 0), of(1, 32, 0, rw, 0)), false)
	checkWithin(t, "14.4: bounds of two, which begin alike", caps(x), caps(of(0, 16, 0, rw, 0), of(0, 32, 0, rw, 0)), true)
	checkWithin(t, "14.4: permissions of two", caps(x), caps(of(0, 32, 0, api.Load, 0), of(0, 32, 0, api.Store, 0)), false)
	checkWithin(t, "14.4: bounds of one, permissions of another", caps(x), caps(of(0, 32, 0, api.Load, 0), of(0, 31, 0, rw, 0)), false)
	two := caps(of(0, 16, 0, api.Load, 0), of(40, 48, 0, api.Store, 3))
	checkWithin(t, "14.4: each has one", caps(two[1], two[0], two[1]), two, true)
	checkWithin(t, "14.4: one has none", append(two, of(0, 17, 0, api.Load, 0)), two, false)
	checkWithin(t, "14.4: the first one has none", caps(of(0, 17, 0, api.Load, 0), two[0], two[1]), two, false)
}

// TestPermissions: bit by bit, those without a name, too.
func TestPermissions(t *testing.T) {
	for n := range 256 {
		for k := range 256 {
			x, y := of(0, 16, 0, api.Perms(n), 0), of(0, 16, 0, api.Perms(k), 0)
			checkWithin(t, "14.4: the permissions "+strconv.Itoa(n)+" of "+strconv.Itoa(k), caps(x), caps(y), n&^k == 0)
		}
	}
}

// TestWhereTheyPoint does not matter.
func TestWhereTheyPoint(t *testing.T) {
	for _, x := range []uint64{0, 5, 16, 99, top} {
		for _, y := range []uint64{0, 5, 16, 99, top} {
			checkWithin(t, "14.4: cursors", caps(of(0, 16, x, rw, 0)), caps(of(0, 16, y, rw, 0)), true)
			checkWithin(t, "14.4: cursors", caps(of(0, 16, x, rw, 7)), caps(of(0, 16, y, rw, 7)), true)
		}
	}
}

// TestSeals goes through seals of x and y, with authorities or without.
func TestSeals(t *testing.T) {
	u, s := opener(), sealer() // both from 0 on, below 8
	seals := []int{-1 << 63, -5, -1, 0, 1, 5, 7, 8, 15, 16, 1 << 40}
	for _, x := range seals {
		for _, y := range seals {
			small, great := of(4, 8, 0, api.Load, x), of(0, 16, 0, rw, y)
			what := "14.4: the seal " + strconv.Itoa(x) + " of " + strconv.Itoa(y)
			isOpen, isOpened := y == 0, y == 0 || 0 < y && y < 8
			isMade := x == 0 || 0 < x && x < 8
			checkWithin(t, what, caps(small), caps(great), x == y)
			checkWithin(t, what+", with Unseal", caps(small), caps(great, u), x == y || isOpened && x == 0)
			checkWithin(t, what+", with Seal", caps(small), caps(great, s), x == y || isOpen && isMade)
			checkWithin(t, what+", with both", caps(small), caps(great, u, s), x == y || isOpened && isMade)
			checkWithin(t, what+", with one that is both", caps(small), caps(great, of(0, 8, 9, api.Seal|api.Unseal, 0)), x == y || isOpened && isMade)
			checkWithin(t, what+", with both, sealed", caps(small), caps(great, sealed(u, 9), sealed(s, 9)), x == y)
			checkWithin(t, what+", with both, but x has more", caps(of(4, 17, 0, api.Load, x)), caps(great, u, s), false)
			checkWithin(t, what+", with both, but x may more", caps(of(4, 8, 0, api.Exec, x)), caps(great, u, s), false)
		}
	}
}

// TestOneOfTheListItself: what would be opened first does not open, nor make.
func TestOneOfTheListItself(t *testing.T) {
	c, nine := bytes16(), of(9, 10, 9, api.Unseal, 0)
	checkWithin(t, "14.4: an authority that is opened first", caps(c), caps(sealed(c, 5), sealed(opener(), 9), nine), false)
	checkWithin(t, "14.4: an authority that is opened first", caps(sealed(c, 5)), caps(c, sealed(sealer(), 9), nine), false)
	checkWithin(t, "14.4: one of a opens nothing", caps(c, opener()), caps(sealed(c, 5)), false)
	checkWithin(t, "14.4: one of a makes nothing", caps(sealed(c, 5), sealer()), caps(c), false)
}

// TestAuthoritiesAreCapabilities: what they are is asked of them, too.
func TestAuthoritiesAreCapabilities(t *testing.T) {
	u := opener()
	checkWithin(t, "14.4: a narrower authority", caps(of(2, 3, 2, api.Unseal, 0)), caps(u), true)
	checkWithin(t, "14.4: a wider authority", caps(of(2, 9, 2, api.Unseal, 0)), caps(u), false)
	checkWithin(t, "14.4: an authority sealed by itself", caps(sealed(sealer(), 5)), caps(sealer()), true)
	checkWithin(t, "14.4: an authority sealed by what it does not make", caps(sealed(sealer(), 8)), caps(sealer()), false)
}
