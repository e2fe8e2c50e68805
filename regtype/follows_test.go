package regtype_test

import (
	"testing"

	"paddock/api"
	"paddock/regtype"
)

// pool is right ones and some wrong ones, so many that each three can be held against one another.
func pool() []api.RType {
	wrong := wrongOnes()
	l := append(rightOnes(), wrong[0], wrong[10], wrong[30], wrong[len(wrong)-1])
	d := rolled(3)
	for range 30 {
		r := d.rtype()
		l = append(l, r, d.near(r))
	}
	return l
}

func TestUnderIsAnOrder(t *testing.T) {
	all := pool()
	for _, a := range all {
		if !regtype.Under(a, a) {
			t.Errorf("9.9: %+v is not under itself", a)
		}
		for _, b := range all {
			if !regtype.Under(a, b) {
				continue
			}
			if regtype.Under(b, a) && modelRight(a) != modelRight(b) {
				t.Errorf("9.9: %+v and %+v are under one another", a, b)
			}
			for _, x := range all {
				if regtype.Under(b, x) && !regtype.Under(a, x) {
					t.Errorf("9.9: %+v is under %+v, and that under %+v", a, b, x)
				}
			}
		}
	}
}

func TestJoinSaysMost(t *testing.T) {
	all := pool()
	for _, a := range all {
		for _, b := range all {
			j := regtype.Join(a, b)
			if regtype.Join(b, a) != j {
				t.Errorf("9.9: Join of %+v and %+v hangs on the order", a, b)
			}
			for _, x := range all {
				if regtype.Under(j, x) != (regtype.Under(a, x) && regtype.Under(b, x)) {
					t.Errorf("9.9: Join(%+v, %+v) under %+v: %t", a, b, x, regtype.Under(j, x))
				}
			}
			if w := regtype.Widen(a, b); !regtype.Under(j, w) {
				t.Errorf("9.9: Widen(%+v, %+v) = %+v, and Join is not under it", a, b, w)
			}
		}
	}
}

func TestNoValueIsLost(t *testing.T) {
	d := rolled(4)
	all := pool()
	for _, a := range all {
		had := values()
		for range 20 {
			had = append(had, d.valueOf(a))
		}
		for _, b := range all {
			j, w, under := regtype.Join(a, b), regtype.Widen(a, b), regtype.Under(a, b)
			for _, v := range had {
				if !regtype.Has(a, v) {
					continue
				}
				if under && !regtype.Has(b, v) {
					t.Errorf("9.9: %+v is under %+v, which has not %+v", a, b, v)
				}
				if !regtype.Has(j, v) || !regtype.Has(w, v) || !regtype.Has(regtype.Widen(b, a), v) {
					t.Errorf("9.9: %+v of %+v is lost with %+v", v, a, b)
				}
			}
		}
	}
}

func TestWhatIsSure(t *testing.T) {
	d := rolled(5)
	for range 20000 {
		r := d.sure()
		of := d.typeOf(r)
		if made := regtype.Of(of); regtype.Sure(made, of) != (made != nothing()) {
			t.Errorf("9.9: Of(%+v) = %+v is not sure of it", of, made)
		}
		less := d.near(r)
		if regtype.Sure(r, of) && regtype.Under(less, r) && !regtype.Sure(less, of) {
			t.Errorf("9.9: %+v is sure of %+v, %+v is not", r, of, less)
		}
	}
	for _, of := range types() {
		if made := regtype.Of(of); regtype.Sure(made, of) != (made != nothing()) {
			t.Errorf("9.9: Of(%+v) = %+v is not sure of it", of, made)
		}
	}
}

// TestExactHasOne: of capabilities that are unlike in one thing, that one alone; and it is sure of the types that have it.
func TestExactHasOne(t *testing.T) {
	d := rolled(6)
	for range 2000 {
		x := d.value().C
		r := regtype.Exact(x)
		if r == nothing() {
			continue
		}
		if !regtype.Has(r, held(x)) || regtype.Has(r, number(x.Cursor)) {
			t.Errorf("9.9: Exact(%+v) = %+v", x, r)
		}
		for _, o := range others(x) {
			if regtype.Has(r, held(o)) {
				t.Errorf("9.9: Exact(%+v) has %+v", x, o)
			}
		}
		if !regtype.Sure(r, api.Type{Cap: true, Base: x.Base, End: x.End, Lo: x.Cursor, Hi: x.Cursor, Perms: x.Perms, Seal: x.Seal}) {
			t.Errorf("9.9: Exact(%+v) is not sure of its type", x)
		}
	}
}

// others are unlike c in one thing each.
func others(c api.Cap) []api.Cap {
	var l []api.Cap
	for _, step := range []uint64{1, top, 1 << 63} {
		o := c
		o.Base += step
		l = append(l, o)
		o = c
		o.End += step
		l = append(l, o)
		o = c
		o.Cursor += step
		l = append(l, o)
	}
	for k := range 8 {
		o := c
		o.Perms ^= 1 << k
		l = append(l, o)
	}
	for _, step := range []int{-1, 1, -16} {
		o := c
		o.Seal += step
		l = append(l, o)
	}
	return l
}

// TestWhatIsThereStays: what comes says nothing new.
func TestWhatIsThereStays(t *testing.T) {
	all := pool()
	for _, a := range all {
		was := modelRight(a)
		if regtype.Join(a, a) != was || regtype.Widen(a, a) != was {
			t.Errorf("9.9: %+v with itself: %+v, %+v", a, regtype.Join(a, a), regtype.Widen(a, a))
		}
		for _, b := range all {
			if regtype.Under(b, a) && (regtype.Join(a, b) != was || regtype.Widen(a, b) != was) {
				t.Errorf("9.9: %+v is changed by %+v, which is under it: %+v, %+v", a, b, regtype.Join(a, b), regtype.Widen(a, b))
			}
		}
	}
}

// TestWidenedOneByOne: so much changes at most, if one thing is changed at a time: six ends of spans, seven permissions, the seal, the kind.
func TestWidenedOneByOne(t *testing.T) {
	r := capability(one(9), one(9), one(9), api.Load|api.Store|api.LoadCap, api.Load|api.Store|api.LoadCap, 3)
	changes := []func(r *api.RType){
		func(r *api.RType) { r.Base.Lo-- },
		func(r *api.RType) { r.Base.Hi++ },
		func(r *api.RType) { r.End.Hi++ },
		func(r *api.RType) { r.End.Lo-- },
		func(r *api.RType) { r.Point.Lo-- },
		func(r *api.RType) { r.Point.Hi++ },
		func(r *api.RType) { r.Must &^= api.Store },
		func(r *api.RType) { r.Must &^= api.LoadCap },
		func(r *api.RType) { r.May |= api.StoreCap },
		func(r *api.RType) { r.May |= api.Unseal },
		func(r *api.RType) { r.Must &^= api.Load },
		func(r *api.RType) { r.May |= api.Exec },
		func(r *api.RType) { r.May |= api.Seal },
		func(r *api.RType) { r.Seal = 4 },
		func(r *api.RType) { *r = integer(0, 0) },
	}
	for k, change := range changes {
		now := regtype.Widen(r, but(r, change))
		if now == r {
			t.Errorf("9.6: the change %d is lost: %+v", k, r)
		}
		for again, x := range append(rightOnes(), now) {
			if w := regtype.Widen(now, regtype.Join(r, x)); regtype.Under(x, now) && w != now {
				t.Errorf("9.9: behind the change %d, by %d: %+v became %+v", k, again, now, w)
			}
		}
		r = now
	}
	if r != nothing() {
		t.Errorf("9.6: at the end %+v is known", r)
	}
}

// TestWidenSettles: whatever comes, and however long: what is known changes at most 22 times.
func TestWidenSettles(t *testing.T) {
	const most = 22
	for seed := range uint64(3000) {
		d := rolled(seed)
		r := d.rtype()
		if seed%2 == 0 {
			r = d.sure()
		}
		changes := 0
		for range 200 {
			// What is near to r changes one thing at a time, so that it takes long.
			x := d.near(r)
			if d.IntN(500) == 0 {
				x = d.rtype()
			}
			now := regtype.Widen(r, x)
			if now != r {
				changes++
			}
			r = now
		}
		if changes > most {
			t.Errorf("9.9: seed %d: %d changes", seed, changes)
		}
	}
}

// TestStatesFollow: what is said of one register holds of all at once.
func TestStatesFollow(t *testing.T) {
	d := rolled(7)
	for range 3000 {
		a, b, x := d.state(), d.state(), d.state()
		j, w := regtype.JoinState(a, b), regtype.WidenState(a, b)
		if !regtype.UnderState(a, j) || !regtype.UnderState(b, j) || !regtype.UnderState(j, w) || !regtype.UnderState(a, a) {
			t.Fatalf("9.9: %+v and %+v: Join %+v, Widen %+v", a, b, j, w)
		}
		x = regtype.JoinState(x, a)
		if regtype.UnderState(j, x) != regtype.UnderState(b, x) {
			t.Fatalf("9.9: JoinState(%+v, %+v) under %+v", a, b, x)
		}
		if regtype.JoinState(j, a) != j || regtype.WidenState(w, b) != w || regtype.WidenState(j, j) != j {
			t.Fatalf("9.9: %+v is changed by what is under it", j)
		}
	}
}
