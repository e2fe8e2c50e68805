package capword_test

import (
	"math/big"
	"testing"

	"paddock/api"
	"paddock/capword"
)

// edges are numbers at which bounds, cursors and seals turn.
func edges() []uint64 {
	return []uint64{0, 1, 5, 6, 15, 16, 17, 1<<32 - 1, 1 << 32, 1<<32 + 1, 1 << 63, top - 1, top}
}

// grid is capabilities of all these parts, rightly built or not.
func grid(bounds []uint64, cursors []uint64, perms []api.Perms, seals []int) []api.Cap {
	var l []api.Cap
	for _, base := range bounds {
		for _, end := range bounds {
			for _, cursor := range cursors {
				for _, p := range perms {
					for _, seal := range seals {
						l = append(l, api.Cap{Base: base, End: end, Cursor: cursor, Perms: p, Seal: seal})
					}
				}
			}
		}
	}
	return l
}

// rightOnes is a grid's capabilities that are rightly built.
func rightOnes(l []api.Cap) []api.Cap {
	var right []api.Cap
	for _, c := range l {
		if capword.Right(c) {
			right = append(right, c)
		}
	}
	return right
}

func smallGrid() []api.Cap {
	return rightOnes(grid(
		[]uint64{0, 5, 16, 1 << 32},
		[]uint64{0, 5, 15, 16, top},
		[]api.Perms{0, api.Load, api.Load | api.Store, api.Seal | api.Unseal, api.AllPerms},
		[]int{0, 5, api.MaxSeal}))
}

// lies tells by numbers that do not go round whether size bytes at an address are within bounds.
func lies(c api.Cap, addr uint64, size uint64) bool {
	end := new(big.Int).SetUint64(addr)
	end.Add(end, new(big.Int).SetUint64(size))
	return addr >= c.Base && end.Cmp(new(big.Int).SetUint64(c.End)) <= 0
}

func TestBoundsAtAllEdges(t *testing.T) {
	for _, c := range grid(edges(), edges(), []api.Perms{api.Load}, []int{0}) {
		for _, n := range edges() {
			fault := api.FBounds
			if lies(c, c.Cursor, n) {
				fault = api.NoFault
			}
			got, f := capword.SetBounds(c, n)
			expect(t, "1.2: at an edge", got, f, bounded(c, c.Cursor, c.Cursor+n), fault)
			for _, off := range []uint64{0, 1, top} {
				want := api.FBounds
				if lies(c, c.Cursor+off, n) {
					want = api.NoFault
				}
				if f := capword.Access(c, off, n, api.Load); f != want {
					t.Errorf("1.7: Access(%+v, %d, %d): fault %d, want %d", c, off, n, f, want)
				}
			}
		}
	}
}

func TestDerivedIsRightAndUnder(t *testing.T) {
	check := func(what string, c api.Cap, got api.Cap, f api.Fault) {
		if f == api.NoFault && !(capword.Right(got) && capword.Under(got, c)) {
			t.Errorf("1.9: %s of %+v: %+v is not rightly built, or not under it", what, c, got)
		}
		if f != api.NoFault && got != (api.Cap{}) {
			t.Errorf("1.9: %s of %+v: fault %d, and %+v beside it", what, c, f, got)
		}
	}
	for _, c := range rightOnes(grid(edges(), edges(), []api.Perms{0, 3, api.AllPerms}, []int{0, 1, api.MaxSeal})) {
		for _, n := range edges() {
			got, f := capword.SetBounds(c, n)
			check("SetBounds", c, got, f)
			got, f = capword.Inc(c, n)
			check("Inc", c, got, f)
			got, f = capword.AndPerm(c, api.Perms(n))
			check("AndPerm", c, got, f)
		}
	}
}

func TestSealingKeepsAllElse(t *testing.T) {
	l := smallGrid()
	done := 0
	check := func(what string, c api.Cap, by api.Cap, got api.Cap, f api.Fault) {
		if f != api.NoFault {
			return
		}
		done++
		if !capword.Right(got) || sealed(got, 0) != sealed(c, 0) {
			t.Errorf("1.9: %s(%+v, %+v): %+v", what, c, by, got)
		}
	}
	for _, c := range l {
		for _, by := range l {
			got, f := capword.SealBy(c, by)
			check("SealBy", c, by, got, f)
			got, f = capword.UnsealBy(c, by)
			check("UnsealBy", c, by, got, f)
		}
	}
	if done == 0 {
		t.Error("1.9: nothing was sealed or unsealed")
	}
}

func TestUnsealingGivesBack(t *testing.T) {
	for _, c := range smallGrid() {
		if c.Seal != 0 {
			continue
		}
		for n := uint64(1); n <= api.MaxSeal; n++ {
			shut, f := capword.SealBy(c, key(0, 16, n, api.Seal))
			expect(t, "1.9: sealed", shut, f, sealed(c, int(n)), api.NoFault)
			again, f := capword.UnsealBy(shut, key(n, n+1, n, api.Unseal))
			expect(t, "1.9: unsealed", again, f, c, api.NoFault)
		}
	}
}

func TestUnderIsAnOrder(t *testing.T) {
	l := rightOnes(grid(
		[]uint64{0, 5, 16, 1 << 32},
		[]uint64{7},
		[]api.Perms{0, api.Load, api.Store, api.Load | api.Store, api.AllPerms},
		[]int{0, 5}))
	for i, a := range l {
		if !capword.Under(a, pointing(a, 9)) {
			t.Errorf("1.9: %+v is not under itself", a)
		}
		for j, b := range l {
			if !capword.Under(a, b) {
				continue
			}
			if i != j && capword.Under(b, a) {
				t.Errorf("1.9: %+v and %+v are under one another", a, b)
			}
			for _, c := range l {
				if capword.Under(b, c) && !capword.Under(a, c) {
					t.Errorf("1.9: %+v is under %+v, that one under %+v, and it is not", a, b, c)
				}
			}
		}
	}
}

func TestWhatIsUnderAccessesNoMore(t *testing.T) {
	l := smallGrid()
	let := 0
	for _, a := range l {
		for _, b := range l {
			b.Cursor = a.Cursor
			if b.Seal != 0 || !capword.Under(a, b) {
				continue
			}
			for _, off := range []uint64{0, 1, top} {
				for _, p := range []api.Perms{0, api.Load, api.Load | api.Store, api.AllPerms} {
					if capword.Access(a, off, 5, p) != api.NoFault {
						continue
					}
					let++
					if f := capword.Access(b, off, 5, p); f != api.NoFault {
						t.Errorf("1.9: %+v is under %+v, and may more at %d for %d: fault %d", a, b, off, p, f)
					}
				}
			}
		}
	}
	if let == 0 {
		t.Error("1.9: no access was let be")
	}
}
