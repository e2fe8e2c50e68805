package reach_test

import (
	"testing"

	"paddock/api"
	"paddock/reach"
)

// TestCapsAsTheyCome: neither sorted nor left out because they are there already.
func TestCapsAsTheyCome(t *testing.T) {
	c, r := bytes16(), reader()
	checkCaps(t, "14.1: of some", reach.Caps(api.Value{N: 4}, holding(r), holding(c), api.Value{}, holding(r)), caps(r, c, r))
	checkCaps(t, "14.1: of none", reach.Caps(), nil)
	checkCaps(t, "14.1: of integers", reach.Caps(api.Value{N: 4}, api.Value{}), nil)
	checkCaps(t, "14.1: of one that is empty", reach.Caps(holding(api.Cap{})), caps(api.Cap{}))
}

// TestTagAloneTells: what of a value is not meant is not looked at.
func TestTagAloneTells(t *testing.T) {
	c := bytes16()
	checkCaps(t, "14.1: with a capability, but no Tag", reach.Caps(api.Value{C: c}, api.Value{N: 3, C: c}), nil)
	checkCaps(t, "14.1: with a number, but a Tag", reach.Caps(api.Value{Tag: true, N: 9, C: c}), caps(c))
}

func TestCapsTakesThemAsTheyAre(t *testing.T) {
	wrong := caps(of(9, 3, top, 255, -1), of(0, top, 0, 128, 16), of(top, 0, 5, 0, 1<<62))
	checkCaps(t, "14.1: not rightly built", reach.Caps(holding(wrong[0]), holding(wrong[1]), holding(wrong[2])), wrong)
}
