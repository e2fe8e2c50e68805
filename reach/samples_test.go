package reach_test

import (
	"slices"
	"strings"
	"testing"

	"paddock/api"
	"paddock/asm"
	"paddock/reach"
	"paddock/tagmem"
)

const top = ^uint64(0)

const rw = api.Load | api.Store

// of is a capability.
func of(base, end, cursor uint64, p api.Perms, seal int) api.Cap {
	return api.Cap{Base: base, End: end, Cursor: cursor, Perms: p, Seal: seal}
}

// sealed is a capability with a seal.
func sealed(c api.Cap, seal int) api.Cap {
	c.Seal = seal
	return c
}

// Those of the chapter's examples.
func bytes16() api.Cap { return of(0, 16, 0, api.Load, 0) }

func reader() api.Cap { return of(32, 48, 32, api.LoadCap, 0) }

func opener() api.Cap { return of(0, 8, 1, api.Unseal, 0) }

func sealer() api.Cap { return of(0, 8, 0, api.Seal, 0) }

func caps(l ...api.Cap) []api.Cap { return l }

func holding(c api.Cap) api.Value { return api.Value{Tag: true, C: c} }

// memory has capabilities at some places.
func memory(t testing.TB, puts map[uint64]api.Cap) *tagmem.Tagged {
	t.Helper()
	m := tagmem.NewTagged(api.Image{})
	for at, c := range puts {
		if e := m.StoreCap(at, holding(c)); e != api.OK {
			t.Fatalf("there is no place at %d", at)
		}
	}
	return m
}

// parse reads a program, in whose text a semicolon stands for the end of a line.
func parse(t testing.TB, text string) api.Image {
	t.Helper()
	text = strings.ReplaceAll(text, ";", "\n")
	m, e, line := asm.Parse(text)
	if e != api.OK {
		t.Fatalf("Parse: %d, line %d of\n%s", e, line, text)
	}
	return m
}

func checkCaps(t testing.TB, what string, got []api.Cap, want []api.Cap) {
	t.Helper()
	if !slices.Equal(got, want) {
		t.Errorf("%s: %v, want %v", what, got, want)
	}
}

// checkDom asks for what is come to from a list in any order, and with all of it twice.
func checkDom(t testing.TB, what string, m *tagmem.Tagged, from []api.Cap, want []api.Cap) {
	t.Helper()
	checkCaps(t, what, reach.Dom(m, from...), want)
	back := slices.Clone(from)
	slices.Reverse(back)
	checkCaps(t, what+", from the last on", reach.Dom(m, back...), want)
	checkCaps(t, what+", each twice", reach.Dom(m, append(back, from...)...), want)
}

func checkWithin(t testing.TB, what string, a []api.Cap, b []api.Cap, want bool) {
	t.Helper()
	if got := reach.Within(a, b); got != want {
		t.Errorf("%s: Within(%v, %v) is %t", what, a, b, got)
	}
	back := slices.Clone(b)
	slices.Reverse(back)
	if got := reach.Within(a, back); got != want {
		t.Errorf("%s: Within(%v, %v) is %t", what, a, back, got)
	}
}

func checkCovers(t testing.TB, what string, l []api.Cap, x api.Touch, want bool) {
	t.Helper()
	if got := reach.Covers(l, x); got != want {
		t.Errorf("%s: Covers(%v, %+v) is %t", what, l, x, got)
	}
}

// codeOf is the capability of a compartment's instruction 0, where there are so many.
func codeOf(comp uint64, size uint64) api.Cap {
	base := 1<<20 + comp<<16
	return of(base, base+8*size, base, api.Exec, 0)
}
