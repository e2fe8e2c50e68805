package capword_test

import (
	"testing"

	"paddock/api"
	"paddock/capword"
)

const top = ^uint64(0)

// chapter is the capability c of the chapter's examples.
func chapter() api.Cap {
	return api.Cap{Base: 64, End: 128, Cursor: 96, Perms: api.Load | api.Store}
}

func pointing(c api.Cap, cursor uint64) api.Cap {
	c.Cursor = cursor
	return c
}

func sealed(c api.Cap, seal int) api.Cap {
	c.Seal = seal
	return c
}

func bounded(c api.Cap, base uint64, end uint64) api.Cap {
	c.Base, c.End = base, end
	return c
}

func permitted(c api.Cap, p api.Perms) api.Cap {
	c.Perms = p
	return c
}

// key is a capability that seals or unseals.
func key(base uint64, end uint64, cursor uint64, p api.Perms) api.Cap {
	return api.Cap{Base: base, End: end, Cursor: cursor, Perms: p}
}

// expect holds what a call answered against what it must; with a fault that is the empty capability.
func expect(t *testing.T, what string, got api.Cap, gotFault api.Fault, want api.Cap, wantFault api.Fault) {
	t.Helper()
	if wantFault != api.NoFault {
		want = api.Cap{}
	}
	if got != want || gotFault != wantFault {
		t.Errorf("%s: got %+v, fault %d; want %+v, fault %d", what, got, gotFault, want, wantFault)
	}
}

func TestRight(t *testing.T) {
	c := chapter()
	for _, x := range []struct {
		what string
		c    api.Cap
		want bool
	}{
		{"the chapter's", c, true},
		{"the empty one", api.Cap{}, true},
		{"no addresses", bounded(c, 70, 70), true},
		{"Base above End", bounded(c, 71, 70), false},
		{"End at 2^32", bounded(c, 0, 1<<32), true},
		{"End above 2^32", bounded(c, 0, 1<<32+1), false},
		{"no addresses at 2^32", bounded(c, 1<<32, 1<<32), true},
		{"no addresses above 2^32", bounded(c, 1<<32+1, 1<<32+1), false},
		{"End at the last number", bounded(c, 0, top), false},
		{"Base at the last number", bounded(c, top, 0), false},
		{"cursor below Base", pointing(c, 0), true},
		{"cursor far behind End", pointing(c, top), true},
		{"no permission", permitted(c, 0), true},
		{"all permissions", permitted(c, api.AllPerms), true},
		{"one that is none", permitted(c, 128), false},
		{"all, and one that is none", permitted(c, 255), false},
		{"the first seal", sealed(c, 1), true},
		{"the last seal", sealed(c, api.MaxSeal), true},
		{"a seal above the last", sealed(c, api.MaxSeal+1), false},
		{"a seal below 0", sealed(c, -1), false},
		{"a seal far below 0", sealed(c, -1<<31), false},
	} {
		if got := capword.Right(x.c); got != x.want {
			t.Errorf("1.1: %s: %v, want %v", x.what, got, x.want)
		}
	}
}

func TestSetBounds(t *testing.T) {
	c := chapter()
	back := api.Cap{Base: 128, End: 64, Perms: api.Load}
	for _, x := range []struct {
		what  string
		c     api.Cap
		n     uint64
		want  api.Cap
		fault api.Fault
	}{
		{"up to End", c, 32, bounded(c, 96, 128), api.NoFault},
		{"a part", c, 8, bounded(c, 96, 104), api.NoFault},
		{"nothing", c, 0, bounded(c, 96, 96), api.NoFault},
		{"one too many", c, 33, api.Cap{}, api.FBounds},
		{"the most", c, top, api.Cap{}, api.FBounds},
		{"an end that goes round to 0", c, top - 95, api.Cap{}, api.FBounds},
		{"an end that goes round to 64", c, top - 31, api.Cap{}, api.FBounds},
		{"all from Base on", pointing(c, 64), 64, pointing(c, 64), api.NoFault},
		{"nothing at End", pointing(c, 128), 0, pointing(bounded(c, 128, 128), 128), api.NoFault},
		{"one at End", pointing(c, 128), 1, api.Cap{}, api.FBounds},
		{"nothing behind End", pointing(c, 129), 0, api.Cap{}, api.FBounds},
		{"something behind End", pointing(c, 129), 5, api.Cap{}, api.FBounds},
		{"nothing below Base", pointing(c, 63), 0, api.Cap{}, api.FBounds},
		{"the most below Base", pointing(c, 63), top, api.Cap{}, api.FBounds},
		{"nothing at the last number", pointing(c, top), 0, api.Cap{}, api.FBounds},
		{"sealed", sealed(c, 5), 8, api.Cap{}, api.FSeal},
		{"sealed, and out of bounds", sealed(pointing(c, 7), 5), 8, api.Cap{}, api.FSeal},
		{"a seal below 0", sealed(c, -1), 8, api.Cap{}, api.FSeal},
		{"a seal above the last", sealed(c, api.MaxSeal+1), 8, api.Cap{}, api.FSeal},
		{"Base above End, between", pointing(back, 96), 0, api.Cap{}, api.FBounds},
		{"Base above End, at Base", pointing(back, 128), 0, api.Cap{}, api.FBounds},
		{"Base above End, at End", pointing(back, 64), 0, api.Cap{}, api.FBounds},
		{"End at the last number", bounded(c, 0, top), top - 96, bounded(c, 96, top), api.NoFault},
		{"strange permissions stay", permitted(c, 255), 1, bounded(permitted(c, 255), 96, 97), api.NoFault},
	} {
		got, fault := capword.SetBounds(x.c, x.n)
		expect(t, "1.2: "+x.what, got, fault, x.want, x.fault)
	}
}

func TestAndPerm(t *testing.T) {
	c := chapter()
	for _, x := range []struct {
		what  string
		c     api.Cap
		p     api.Perms
		want  api.Perms
		fault api.Fault
	}{
		{"one it has and one it has not", c, api.Store | api.Exec, api.Store, api.NoFault},
		{"all", c, api.AllPerms, api.Load | api.Store, api.NoFault},
		{"none", c, 0, 0, api.NoFault},
		{"none that it has", c, api.Seal | api.Unseal, 0, api.NoFault},
		{"one that is none", c, 128, 0, api.NoFault},
		{"strange ones that both have", permitted(c, 255), 129, 129, api.NoFault},
		{"out of bounds", pointing(c, top), api.Load, api.Load, api.NoFault},
		{"Base above End", bounded(c, 9, 3), api.Load, api.Load, api.NoFault},
		{"sealed", sealed(c, 5), api.AllPerms, 0, api.FSeal},
		{"a seal below 0", sealed(c, -3), 0, 0, api.FSeal},
		{"a seal above the last", sealed(c, 99), 0, 0, api.FSeal},
	} {
		got, fault := capword.AndPerm(x.c, x.p)
		expect(t, "1.3: "+x.what, got, fault, permitted(x.c, x.want), x.fault)
	}
}

func TestInc(t *testing.T) {
	c := chapter()
	for _, x := range []struct {
		what  string
		c     api.Cap
		n     uint64
		want  uint64
		fault api.Fault
	}{
		{"within", c, 8, 104, api.NoFault},
		{"behind End", c, 40, 136, api.NoFault},
		{"nowhere", c, 0, 96, api.NoFault},
		{"one back", c, top, 95, api.NoFault},
		{"back below Base", c, top - 95, 0, api.NoFault},
		{"round to the last number", c, top - 96, top, api.NoFault},
		{"round from the last number", pointing(c, top), 1, 0, api.NoFault},
		{"twice the last number", pointing(c, top), top, top - 1, api.NoFault},
		{"Base above End", bounded(c, 9, 3), 1, 97, api.NoFault},
		{"sealed", sealed(c, 5), 8, 0, api.FSeal},
		{"sealed, nowhere", sealed(c, 5), 0, 0, api.FSeal},
		{"a seal below 0", sealed(c, -1), 1, 0, api.FSeal},
		{"a seal above the last", sealed(c, 16), 1, 0, api.FSeal},
	} {
		got, fault := capword.Inc(x.c, x.n)
		expect(t, "1.4: "+x.what, got, fault, pointing(x.c, x.want), x.fault)
	}
}

func TestSealBy(t *testing.T) {
	c := chapter()
	s := key(0, 16, 5, api.Seal)
	for _, x := range []struct {
		what  string
		c, by api.Cap
		seal  int
		fault api.Fault
	}{
		{"by 5", c, s, 5, api.NoFault},
		{"by the first", c, pointing(s, 1), 1, api.NoFault},
		{"by the last", c, pointing(s, 15), 15, api.NoFault},
		{"by the only one within", c, key(5, 6, 5, api.AllPerms), 5, api.NoFault},
		{"by 0", c, pointing(s, 0), 0, api.FOtype},
		{"by one above the last", c, key(0, 17, 16, api.Seal), 0, api.FOtype},
		{"by one far above the last", c, key(0, top, 1<<32+5, api.Seal), 0, api.FOtype},
		{"by one whose half would be a seal", c, key(0, top, 1<<63+5, api.Seal), 0, api.FOtype},
		{"by End", c, pointing(s, 16), 0, api.FBounds},
		{"by End, where a seal could be", c, key(0, 5, 5, api.Seal), 0, api.FBounds},
		{"by one below Base", c, key(6, 16, 5, api.Seal), 0, api.FBounds},
		{"by one without addresses", c, key(5, 5, 5, api.Seal), 0, api.FBounds},
		{"by Base above End", c, key(16, 3, 5, api.Seal), 0, api.FBounds},
		{"by the last number, which is End", c, key(0, top, top, api.Seal), 0, api.FBounds},
		{"by one without Seal", c, permitted(s, api.AllPerms-api.Seal), 0, api.FPerm},
		{"by one without Seal, out of bounds", c, pointing(permitted(s, api.Unseal), 99), 0, api.FPerm},
		{"by a sealed one", c, sealed(s, 5), 0, api.FSeal},
		{"by a sealed one without Seal", c, sealed(permitted(s, 0), 5), 0, api.FSeal},
		{"by one with a seal below 0", c, sealed(s, -1), 0, api.FSeal},
		{"a sealed one", sealed(c, 5), s, 0, api.FSeal},
		{"a sealed one, by one without Seal", sealed(c, 5), permitted(s, 0), 0, api.FSeal},
		{"one with a seal below 0", sealed(c, -1), s, 0, api.FSeal},
		{"one with a seal above the last", sealed(c, 16), s, 0, api.FSeal},
		{"one that points nowhere", pointing(c, top), s, 5, api.NoFault},
		{"one with Base above End", permitted(bounded(c, 9, 3), 255), s, 5, api.NoFault},
		{"itself", s, s, 5, api.NoFault},
	} {
		got, fault := capword.SealBy(x.c, x.by)
		expect(t, "1.5: "+x.what, got, fault, sealed(x.c, x.seal), x.fault)
	}
}

func TestUnsealBy(t *testing.T) {
	c := chapter()
	u := key(0, 16, 5, api.Unseal)
	for _, x := range []struct {
		what  string
		c, by api.Cap
		fault api.Fault
	}{
		{"by 5", sealed(c, 5), u, api.NoFault},
		{"by the first", sealed(c, 1), pointing(u, 1), api.NoFault},
		{"by the last", sealed(c, 15), pointing(u, 15), api.NoFault},
		{"by the only one within", sealed(c, 5), key(5, 6, 5, api.AllPerms), api.NoFault},
		{"by another", sealed(c, 5), pointing(u, 6), api.FOtype},
		{"by 0", sealed(c, 5), pointing(u, 0), api.FOtype},
		{"by one that is the same in 32 bits", sealed(c, 5), key(0, top, 1<<32+5, api.Unseal), api.FOtype},
		{"by End", sealed(c, 5), pointing(u, 16), api.FBounds},
		{"by End, which is the seal", sealed(c, 5), key(0, 5, 5, api.Unseal), api.FBounds},
		{"by one below Base", sealed(c, 5), key(6, 16, 5, api.Unseal), api.FBounds},
		{"by Base above End", sealed(c, 5), key(16, 3, 5, api.Unseal), api.FBounds},
		{"by one without Unseal", sealed(c, 5), permitted(u, api.AllPerms-api.Unseal), api.FPerm},
		{"by one with Seal", sealed(c, 5), permitted(u, api.Seal), api.FPerm},
		{"by one without Unseal, out of bounds", sealed(c, 5), pointing(permitted(u, 0), 99), api.FPerm},
		{"by a sealed one", sealed(c, 5), sealed(u, 5), api.FSeal},
		{"by a sealed one without Unseal", sealed(c, 5), sealed(permitted(u, 0), 5), api.FSeal},
		{"by one with a seal below 0", sealed(c, 5), sealed(u, -1), api.FSeal},
		{"an open one", c, u, api.FSeal},
		{"an open one by 0", c, pointing(u, 0), api.FSeal},
		{"an open one by one without Unseal", c, permitted(u, 0), api.FSeal},
		{"a seal of -1 by the number that it goes round to, at End", sealed(c, -1), key(0, top, top, api.Unseal), api.FBounds},
		{"a seal of -2 by the number that it goes round to", sealed(c, -2), key(0, top, top-1, api.Unseal), api.FOtype},
		{"a seal of -5 by 5", sealed(c, -5), u, api.FOtype},
		{"a seal below 0 by one without Unseal", sealed(c, -5), permitted(u, 0), api.FPerm},
		{"a seal above the last", sealed(c, 99), key(0, 100, 99, api.Unseal), api.NoFault},
		{"one that points nowhere", sealed(pointing(c, top), 5), u, api.NoFault},
		{"one with Base above End", sealed(permitted(bounded(c, 9, 3), 255), 5), u, api.NoFault},
	} {
		got, fault := capword.UnsealBy(x.c, x.by)
		expect(t, "1.6: "+x.what, got, fault, sealed(x.c, 0), x.fault)
	}
}

func TestAccess(t *testing.T) {
	c := chapter()
	for _, x := range []struct {
		what      string
		c         api.Cap
		off, size uint64
		p         api.Perms
		fault     api.Fault
	}{
		{"up to End", c, 0, 32, api.Load, api.NoFault},
		{"one too many", c, 0, 33, api.Load, api.FBounds},
		{"the most", c, 0, top, api.Load, api.FBounds},
		{"an end that goes round", c, 0, top - 31, api.Load, api.FBounds},
		{"back to Base", c, top - 31, 8, api.Store, api.NoFault},
		{"all", c, top - 31, 64, api.Store, api.NoFault},
		{"all and one", c, top - 31, 65, api.Store, api.FBounds},
		{"back below Base", c, top - 32, 8, api.Store, api.FBounds},
		{"nothing at End", c, 32, 0, 0, api.NoFault},
		{"one at End", c, 32, 1, 0, api.FBounds},
		{"nothing behind End", c, 33, 0, 0, api.FBounds},
		{"nothing below Base", c, top - 32, 0, 0, api.FBounds},
		{"round from the last number", pointing(c, top), 65, 64, api.Load, api.NoFault},
		{"round from the last number, below Base", pointing(c, top), 64, 1, api.Load, api.FBounds},
		{"at the last number", pointing(c, top), 0, 0, 0, api.FBounds},
		{"back from behind End", pointing(c, 200), top - 99, 28, api.Load, api.NoFault},
		{"back from behind End, one too many", pointing(c, 200), top - 99, 29, api.Load, api.FBounds},
		{"for both", c, 0, 1, api.Load | api.Store, api.NoFault},
		{"for nothing", c, 0, 1, 0, api.NoFault},
		{"for what it has not", c, 0, 1, api.Exec, api.FPerm},
		{"for what it has, and what it has not", c, 0, 1, api.Load | api.Exec, api.FPerm},
		{"for what is no permission", c, 0, 1, 128, api.FPerm},
		{"for what is no permission, which it has", permitted(c, 255), 0, 1, 128, api.NoFault},
		{"for what it has not, out of bounds", c, 99, 1, api.Exec, api.FPerm},
		{"sealed", sealed(c, 5), 0, 1, api.Load, api.FSeal},
		{"sealed, and all else wrong", sealed(c, 5), 99, 0, api.Exec, api.FSeal},
		{"a seal below 0", sealed(c, -1), 0, 1, api.Load, api.FSeal},
		{"a seal above the last", sealed(c, 16), 0, 1, api.Load, api.FSeal},
		{"Base above End", bounded(c, 100, 90), 0, 0, 0, api.FBounds},
		{"Base above End, at Base", bounded(c, 96, 90), 0, 0, 0, api.FBounds},
		{"Base above End, at End", bounded(c, 100, 96), 0, 0, 0, api.FBounds},
		{"End at the last number", bounded(c, 0, top), 0, top - 96, api.Load, api.NoFault},
		{"End at the last number, one too many", bounded(c, 0, top), 0, top - 95, api.Load, api.FBounds},
	} {
		if got := capword.Access(x.c, x.off, x.size, x.p); got != x.fault {
			t.Errorf("1.7: %s: fault %d, want %d", x.what, got, x.fault)
		}
	}
}

func TestUnder(t *testing.T) {
	c := chapter()
	part := api.Cap{Base: 96, End: 128, Cursor: 7, Perms: api.Load}
	for _, x := range []struct {
		what string
		a, b api.Cap
		want bool
	}{
		{"a part", part, c, true},
		{"the whole, of its part", c, part, false},
		{"itself", c, c, true},
		{"it, pointing elsewhere", pointing(c, top), c, true},
		{"a lower Base", bounded(c, 63, 128), c, false},
		{"a higher Base", bounded(c, 65, 128), c, true},
		{"a higher End", bounded(c, 64, 129), c, false},
		{"a lower End", bounded(c, 64, 127), c, true},
		{"no addresses at End", bounded(c, 128, 128), c, true},
		{"no addresses elsewhere", bounded(c, 0, 0), c, false},
		{"another permission", permitted(c, api.Exec), c, false},
		{"one more permission", permitted(c, api.Load|api.Store|api.Exec), c, false},
		{"no permission", permitted(c, 0), c, true},
		{"a permission that is none", permitted(c, 128), c, false},
		{"a permission that is none, of one that has it", permitted(c, 128), permitted(c, 255), true},
		{"sealed, of open", sealed(c, 5), c, false},
		{"open, of sealed", c, sealed(c, 5), false},
		{"of the same seal", sealed(part, 5), sealed(c, 5), true},
		{"of another seal", sealed(c, 4), sealed(c, 5), false},
		{"of the same seal below 0", sealed(c, -1), sealed(c, -1), true},
		{"Base above End", bounded(c, 99, 70), c, true},
		{"Base above End, with a lower Base", bounded(c, 63, 0), c, false},
		{"of Base above End", c, bounded(c, 128, 64), false},
		{"Base above End, of itself", bounded(c, 128, 64), bounded(c, 128, 64), true},
	} {
		if got := capword.Under(x.a, x.b); got != x.want {
			t.Errorf("1.8: %s: %v, want %v", x.what, got, x.want)
		}
	}
}
