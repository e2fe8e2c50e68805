package reach_test

import (
	"testing"

	"paddock/api"
)

func TestExampleOne(t *testing.T) {
	c, r, u := bytes16(), reader(), opener()
	m := memory(t, map[uint64]api.Cap{32: c})
	checkDom(t, "14.3: example 1", m, caps(r), caps(c, r))
	late := of(33, 48, 32, api.LoadCap, 0)
	checkDom(t, "14.3: example 1, with Base 33", m, caps(late), caps(late))
	checkDom(t, "14.3: example 1, sealed", m, caps(sealed(r, 5)), caps(sealed(r, 5)))
	checkDom(t, "14.3: example 1, sealed, and what opens it", m, caps(sealed(r, 5), u), caps(u, c, r, sealed(r, 5)))
}

func TestExampleTwo(t *testing.T) {
	c, u := bytes16(), opener()
	s := sealed(c, 5)
	checkWithin(t, "14.4: example 2", caps(s), caps(c), false)
	checkWithin(t, "14.4: example 2", caps(s), caps(c, sealer()), true)
	checkWithin(t, "14.4: example 2", caps(c), caps(s), false)
	checkWithin(t, "14.4: example 2", caps(c), caps(s, u), true)
	checkWithin(t, "14.4: example 2", caps(), caps(), true)
}

func TestExampleThree(t *testing.T) {
	c := caps(bytes16())
	checkCovers(t, "14.5: example 3", c, api.Touch{Addr: 8, Size: 8}, true)
	checkCovers(t, "14.5: example 3", c, api.Touch{Addr: 8, Size: 9}, false)
	checkCovers(t, "14.5: example 3", c, api.Touch{Store: true, Addr: 8, Size: 8}, false)
	checkCovers(t, "14.5: example 3", c, api.Touch{Addr: 0, Size: 16}, false)
}
