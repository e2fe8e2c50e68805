package regtype_test

import (
	"testing"

	"paddock/api"
	"paddock/regtype"
)

// The model says all of the chapter once more, kind by kind and word by word.

func full(a api.Span) bool { return a.Lo <= a.Hi }

// modelRight is r, if it is rightly built, else nothing.
func modelRight(r api.RType) api.RType {
	switch r.Kind {
	case api.AnInt:
		if full(r.N) && r.Base == s(0, 0) && r.End == s(0, 0) && r.Point == s(0, 0) && r.Must == 0 && r.May == 0 && r.Seal == 0 {
			return r
		}
	case api.ACap:
		if full(r.Base) && full(r.End) && full(r.Point) && r.Must|r.May == r.May && r.May < 128 && r.Seal >= -1 && r.Seal <= 15 && r.N == s(0, 0) {
			return r
		}
	}
	return api.RType{}
}

func modelIn(n uint64, a api.Span) bool { return n >= a.Lo && n <= a.Hi }

func modelHas(r api.RType, v api.Value) bool {
	r = modelRight(r)
	if r.Kind == api.Any {
		return true
	}
	if r.Kind == api.AnInt {
		return !v.Tag && modelIn(v.N, r.N)
	}
	if !v.Tag || !modelIn(v.C.Base, r.Base) || !modelIn(v.C.End, r.End) || !modelIn(v.C.Cursor, r.Point) {
		return false
	}
	for k := range 8 {
		p := api.Perms(1) << k
		if r.Must&p != 0 && v.C.Perms&p == 0 || v.C.Perms&p != 0 && r.May&p == 0 {
			return false
		}
	}
	return r.Seal == -1 || r.Seal == v.C.Seal
}

func modelInside(a api.Span, b api.Span) bool { return modelIn(a.Lo, b) && modelIn(a.Hi, b) }

func modelUnder(a api.RType, b api.RType) bool {
	a, b = modelRight(a), modelRight(b)
	switch {
	case b.Kind == api.Any:
		return true
	case a.Kind == api.AnInt && b.Kind == api.AnInt:
		return modelInside(a.N, b.N)
	case a.Kind == api.ACap && b.Kind == api.ACap:
		return modelInside(a.Base, b.Base) && modelInside(a.End, b.End) && modelInside(a.Point, b.Point) &&
			b.Must&a.Must == b.Must && a.May&b.May == a.May && (b.Seal == -1 || b.Seal == a.Seal)
	}
	return false
}

func modelGrown(a api.Span, b api.Span, widen bool) api.Span {
	j := s(min(a.Lo, b.Lo), max(a.Hi, b.Hi))
	if widen && b.Lo < a.Lo {
		j.Lo = 0
	}
	if widen && b.Hi > a.Hi {
		j.Hi = top
	}
	return j
}

// modelMerged is Join, or Widen.
func modelMerged(a api.RType, b api.RType, widen bool) api.RType {
	a, b = modelRight(a), modelRight(b)
	switch {
	case a.Kind == api.AnInt && b.Kind == api.AnInt:
		return api.RType{Kind: api.AnInt, N: modelGrown(a.N, b.N, widen)}
	case a.Kind == api.ACap && b.Kind == api.ACap:
		seal := -1
		if a.Seal == b.Seal {
			seal = a.Seal
		}
		return capability(modelGrown(a.Base, b.Base, widen), modelGrown(a.End, b.End, widen), modelGrown(a.Point, b.Point, widen), a.Must&b.Must, a.May|b.May, seal)
	}
	return api.RType{}
}

func modelSure(r api.RType, t api.Type) bool {
	r = modelRight(r)
	if !t.Cap {
		return r.Kind == api.AnInt
	}
	return r.Kind == api.ACap && r.Base == one(t.Base) && r.End == one(t.End) &&
		r.Point.Lo >= t.Lo && r.Point.Hi <= t.Hi && r.Must == t.Perms && r.May == t.Perms && r.Seal == t.Seal && r.Seal != -1
}

// checkTwo holds all calls of two against the model.
func checkTwo(t *testing.T, a api.RType, b api.RType) {
	t.Helper()
	if got := regtype.Under(a, b); got != modelUnder(a, b) {
		t.Errorf("9.4: Under(%+v, %+v) = %t", a, b, got)
	}
	if got, want := regtype.Join(a, b), modelMerged(a, b, false); got != want {
		t.Errorf("9.5: Join(%+v, %+v) = %+v, want %+v", a, b, got, want)
	}
	if got, want := regtype.Widen(a, b), modelMerged(a, b, true); got != want {
		t.Errorf("9.6: Widen(%+v, %+v) = %+v, want %+v", a, b, got, want)
	}
}

func checkHas(t *testing.T, r api.RType, v api.Value) {
	t.Helper()
	if got := regtype.Has(r, v); got != modelHas(r, v) {
		t.Errorf("9.3: Has(%+v, %+v) = %t", r, v, got)
	}
}

func checkSure(t *testing.T, r api.RType, of api.Type) {
	t.Helper()
	if got := regtype.Sure(r, of); got != modelSure(r, of) {
		t.Errorf("9.7: Sure(%+v, %+v) = %t", r, of, got)
	}
}

// TestEdgesAsModelled: all of the edges, each with each.
func TestEdgesAsModelled(t *testing.T) {
	all := append(rightOnes(), wrongOnes()...)
	for _, a := range all {
		for _, b := range all {
			checkTwo(t, a, b)
		}
		for _, v := range values() {
			checkHas(t, a, v)
		}
		for _, of := range types() {
			checkSure(t, a, of)
		}
	}
}

// TestMadeAsModelled: what the dice made, and what is near to it. How often something holds is counted, so that it is not all of one sort.
func TestMadeAsModelled(t *testing.T) {
	d := rolled(1)
	under, has, sure := 0, 0, 0
	const rounds = 100000
	for range rounds {
		a := d.rtype()
		b := d.near(d.near(a))
		if d.IntN(3) == 0 {
			b = d.rtype()
		}
		checkTwo(t, a, b)
		v := d.valueOf(b)
		checkHas(t, a, v)
		r := d.near(d.sure())
		of := d.typeOf(r)
		checkSure(t, r, of)
		under, has, sure = under+count(modelUnder(a, b)), has+count(modelHas(a, v)), sure+count(modelSure(r, of))
		if t.Failed() {
			return
		}
	}
	for _, n := range []int{under, has, sure} {
		if n < rounds/10 || n > rounds-rounds/10 {
			t.Errorf("of %d: under %d, has %d, sure %d: the dice make too much of one sort", rounds, under, has, sure)
		}
	}
}

func count(b bool) int {
	if b {
		return 1
	}
	return 0
}
