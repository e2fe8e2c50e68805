package reach_test

import (
	"testing"

	"paddock/api"
)

// permFor is the permission that an access needs, by the words of 14.5.
func permFor(x api.Touch) api.Perms {
	return map[bool]map[bool]api.Perms{
		true:  {true: api.StoreCap, false: api.LoadCap},
		false: {true: api.Store, false: api.Load},
	}[x.Size == 16][x.Store]
}

// isAll tells whether one has all bytes of an access. What lies up to End is asked ahead of a sum, which could go round.
func isAll(c api.Cap, x api.Touch) bool {
	return c.Base <= x.Addr && x.Addr <= c.End && x.Size <= c.End-x.Addr
}

// TestBytesOfATouch: at Addr below Base, at it, at End and above; with a Size of 0, of Granule and of others; with numbers that would go round.
func TestBytesOfATouch(t *testing.T) {
	numbers := []uint64{0, 1, 7, 8, 15, 16, 17, 31, 32, 33, 47, 48, 49, 1 << 32, 1 << 63, top - 16, top - 15, top - 8, top - 1, top}
	for _, c := range caps(of(16, 48, 0, 15, 0), of(0, 32, 99, 15, 0), of(0, top, 0, 15, 0), of(top, top, 0, 15, 0), of(top-16, top, 0, 15, 0), of(0, 0, 0, 15, 0), of(48, 16, 32, 15, 0), of(top, 0, 0, 15, 0)) {
		for _, addr := range numbers {
			for _, size := range numbers {
				for _, store := range []bool{false, true} {
					x := api.Touch{Store: store, Addr: addr, Size: size}
					checkCovers(t, "14.5: bytes", caps(c), x, isAll(c, x))
				}
			}
		}
	}
}

// TestSizeNought: it may lie at End, and not behind it.
func TestSizeNought(t *testing.T) {
	c := caps(of(16, 32, 0, api.Load, 0))
	for addr, want := range map[uint64]bool{15: false, 16: true, 31: true, 32: true, 33: false} {
		checkCovers(t, "14.5: no bytes", c, api.Touch{Addr: addr}, want)
		checkCovers(t, "14.5: no bytes, a store", c, api.Touch{Store: true, Addr: addr}, false)
	}
}

// TestPermissionOfATouch: that one, whatever else is there.
func TestPermissionOfATouch(t *testing.T) {
	for n := range 256 {
		for _, size := range []uint64{0, 1, 8, 15, 16, 17, 32} {
			for _, store := range []bool{false, true} {
				x := api.Touch{Store: store, Addr: 16, Size: size}
				checkCovers(t, "14.5: permissions", caps(of(16, 48, 0, api.Perms(n), 0)), x, api.Perms(n)&permFor(x) != 0)
			}
		}
	}
}

// TestCoversIsOfOpenOnes: also where another one of the list would open it.
func TestCoversIsOfOpenOnes(t *testing.T) {
	x := api.Touch{Addr: 4, Size: 8}
	for _, seal := range []int{1, 5, 15, 16, -1, -1 << 63} {
		checkCovers(t, "14.5: sealed", caps(sealed(bytes16(), seal)), x, false)
		checkCovers(t, "14.5: sealed, and what opens it", caps(sealed(bytes16(), seal), opener()), x, false)
	}
	checkCovers(t, "14.5: open", caps(bytes16()), x, true)
}

// TestOneCovers: anywhere in the list; but two do not together; where it points does not matter.
func TestOneCovers(t *testing.T) {
	x := api.Touch{Addr: 4, Size: 8}
	checkCovers(t, "14.5: none", nil, x, false)
	checkCovers(t, "14.5: the first", caps(bytes16(), reader()), x, true)
	checkCovers(t, "14.5: the last", caps(reader(), sealed(bytes16(), 3), bytes16()), x, true)
	checkCovers(t, "14.5: halves", caps(of(0, 8, 0, api.Load, 0), of(8, 16, 0, api.Load, 0)), x, false)
	checkCovers(t, "14.5: bytes of one, the permission of another", caps(of(0, 16, 0, api.Store, 0), of(8, 16, 0, api.Load, 0)), x, false)
	for _, cursor := range []uint64{0, 3, 4, 5, 16, 17, 1 << 32, top - 3, top} {
		checkCovers(t, "14.5: pointing elsewhere", caps(of(0, 16, cursor, api.Load, 0)), x, true)
	}
}
