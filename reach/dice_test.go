package reach_test

import (
	"math/rand/v2"

	"paddock/api"
)

// dice makes capabilities, lists and programs, the same in each run of the tests.
type dice struct{ *rand.Rand }

func rolled(seed uint64) dice { return dice{rand.New(rand.NewPCG(seed, 14))} }

// one is one of a list.
func one[T any](d dice, l ...T) T { return l[d.IntN(len(l))] }

func (d dice) rarely() bool { return d.IntN(12) == 0 }

// number is mostly a small one, at the edge of places and seals.
func (d dice) number() uint64 {
	return one(d, 0, 0, 1, 2, 5, 6, 15, 16, 17, 32, 48, 64, 80, 95, 96, 1<<32, top, d.Uint64N(100), d.Uint64())
}

func (d dice) seal() int {
	return one(d, 0, 0, 0, 0, 1, 2, 3, 5, 15, 16, -1, 1<<62, -1<<63, d.IntN(20)-3)
}

// cap is a capability, mostly rightly built.
func (d dice) cap() api.Cap {
	c := of(d.number(), d.number(), d.Uint64N(3), api.Perms(d.IntN(256)), d.seal())
	if c.Base > c.End && !d.rarely() {
		c.Base, c.End = c.End, c.Base
	}
	if d.IntN(3) == 0 {
		c.Perms &= one(d, api.LoadCap, api.Unseal, api.Seal, api.LoadCap|api.Unseal, rw)
	}
	return c
}

// narrow is a reader of one or two places, or an authority over one or two seals.
func (d dice) narrow() api.Cap {
	n := d.Uint64N(6)
	c := of(16*n, 16*n+one[uint64](d, 16, 16, 32, 15), 0, api.LoadCap, d.seal())
	if d.IntN(2) == 0 {
		c = of(n, n+1+d.Uint64N(2), 0, one(d, api.Unseal, api.Unseal, api.Seal), d.seal())
	}
	return c
}

func (d dice) list(n int) []api.Cap {
	var l []api.Cap
	for range n {
		switch c := d.cap(); d.IntN(4) {
		case 0:
			l = append(l, c)
		case 1:
			if len(l) > 0 {
				c = sealed(one(d, l...), d.seal())
			}
			l = append(l, c)
		default:
			l = append(l, d.narrow())
		}
	}
	return l
}

// places are some of the first ones of memory, and what they hold.
func (d dice) places() map[uint64]api.Cap {
	l := map[uint64]api.Cap{}
	for _, c := range d.list(d.IntN(9)) {
		l[16*d.Uint64N(7)] = c
	}
	return l
}

// less is a capability that gives no more than one of a list, or hardly more.
func (d dice) less(l []api.Cap) api.Cap {
	if len(l) == 0 {
		return d.cap()
	}
	c := one(d, l...)
	if c.Base < c.End {
		c.Base += d.Uint64N(2)
		c.End -= d.Uint64N(2)
	}
	c.Cursor = d.number()
	switch d.IntN(8) {
	case 0:
		c.Base--
	case 1:
		c.End++
	case 2:
		c.Perms |= 1 << d.IntN(8)
	case 3:
		c.Perms &= api.Perms(d.IntN(256))
	case 4, 5:
		c.Seal = d.seal()
	}
	return c
}
