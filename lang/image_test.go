package lang_test

import (
	"reflect"
	"strconv"
	"strings"
	"testing"

	"paddock/api"
	"paddock/capmachine"
	"paddock/image"
)

const rw = api.Load | api.Store

// lent is the type of a param for a region.
func lent(base, end uint64, p api.Perms) api.Type {
	return api.Type{Cap: true, Base: base, End: end, Lo: base, Hi: base, Perms: p}
}

func root(base, end uint64, p api.Perms) api.Cap {
	return api.Cap{Base: base, End: end, Cursor: base, Perms: p}
}

// checkImage asks for all of an image but its code, its entries, and in which registers the roots are.
func checkImage(t *testing.T, source string, regions []api.Region, roots [][]api.Cap, comps []int, args [][]api.Type) {
	t.Helper()
	m := made(t, source).image
	if len(m.Regions) != len(regions) || len(m.Comps) != len(roots) || len(m.Gates) != len(args) || m.Depth != api.MaxDepth {
		t.Fatalf("15.4: %q: %d regions, %d compartments, %d gates, depth %d", source, len(m.Regions), len(m.Comps), len(m.Gates), m.Depth)
	}
	for k, r := range m.Regions {
		if r.Base != regions[k].Base || r.Len != regions[k].Len || r.Data != "" || len(r.Slots) != 0 {
			t.Errorf("15.4: %q: region %d is %+v, want %+v", source, k, r, regions[k])
		}
	}
	for k, c := range m.Comps {
		var got []api.Cap
		for _, r := range c.Roots {
			got = append(got, r.Cap)
		}
		if !sameCaps(got, roots[k]) {
			t.Errorf("15.4: %q: the roots of the compartment %d are %v, want %v", source, k, got, roots[k])
		}
	}
	for k, g := range m.Gates {
		if g.Comp != comps[k] || len(g.Args) != len(args[k]) || !reflect.DeepEqual(g.Results, []api.Type{{}}) {
			t.Errorf("15.4: %q: gate %d is %+v", source, k, g)
			continue
		}
		for n, a := range g.Args {
			if a != args[k][n] {
				t.Errorf("15.4: %q: argument %d of the gate %d is of %+v, want %+v", source, n, k, a, args[k][n])
			}
		}
	}
}

// sameCaps tells whether two lists have the same capabilities, in any order.
func sameCaps(a, b []api.Cap) bool {
	count := map[api.Cap]int{}
	for _, c := range a {
		count[c]++
	}
	for _, c := range b {
		count[c]--
	}
	for _, n := range count {
		if n != 0 {
			return false
		}
	}
	return true
}

// TestImages: regions, roots, gates and their types.
func TestImages(t *testing.T) {
	none := []api.Type{}
	checkImage(t, "comp c { fn f() { } }", nil, [][]api.Cap{nil}, []int{0}, [][]api.Type{none})
	checkImage(t, "comp c { fn f(x, y) { } fn g() { } } comp d { fn h(a, b, e, i, j) { } }", nil, [][]api.Cap{nil, nil}, []int{0, 0, 1}, [][]api.Type{{{}, {}}, none, {{}, {}, {}, {}, {}}})
	source := `bytes a 1 words b 1 bytes d 16 bytes e 17 words g 2 words h 3 bytes i 512 words j 512
comp k uses a reads e { fn l(p: uses a, x, q: reads d) { } fn m() { } }
comp n { fn o(r: uses j) { } }
comp q reads i uses j reads b { fn r(s: reads j, u: uses g, v: reads h, w: uses e, x: reads b) { } }
comp u uses h { fn v(x) { } }`
	regions := []api.Region{{Base: 0, Len: 16}, {Base: 16, Len: 16}, {Base: 32, Len: 16}, {Base: 48, Len: 32}, {Base: 80, Len: 16}, {Base: 96, Len: 32}, {Base: 128, Len: 512}, {Base: 640, Len: 4096}}
	checkImage(t, source, regions,
		[][]api.Cap{{root(0, 16, rw), root(48, 80, api.Load)}, nil, {root(128, 640, api.Load), root(640, 4736, rw), root(16, 32, api.Load)}, {root(96, 128, rw)}},
		[]int{0, 0, 1, 2, 3},
		[][]api.Type{{lent(0, 16, rw), {}, lent(32, 48, api.Load)}, none, {lent(640, 4736, rw)}, {lent(640, 4736, api.Load), lent(80, 96, rw), lent(96, 128, api.Load), lent(48, 80, rw), lent(16, 32, api.Load)}, {{}}})
}

// TestRegionsFollow: where regions lie, of each size.
func TestRegionsFollow(t *testing.T) {
	for n := 1; n <= 512; n++ {
		for kind, size := range map[string]int{"bytes": 1, "words": 8} {
			source := kind + " a " + strconv.Itoa(n) + " bytes b 1 comp c uses b { fn f() { b[0] = 1 } }"
			end := uint64((n*size + 15) / 16 * 16)
			m := made(t, source).image
			if m.Regions[0].Base != 0 || m.Regions[0].Len != end || m.Regions[1].Base != end || m.Regions[1].Len != 16 {
				t.Fatalf("15.4: %s of %d: %+v", kind, n, m.Regions)
			}
		}
	}
	s := ran(t, "bytes a 17 words b 3 bytes d 1 comp c uses a uses b uses d { fn f() { a[16] = 1 b[2] = 2 d[0] = 3 } }", 0, nil)
	want := []api.Touch{{Store: true, Addr: 16, Size: 1}, {Store: true, Addr: 48, Size: 8}, {Store: true, Addr: 64, Size: 1}}
	if !reflect.DeepEqual(s.touches, want) {
		t.Errorf("15.4: touched %v, want %v", s.touches, want)
	}
}

// TestBytesOfWords: the lowest first; all are 0 at first.
func TestBytesOfWords(t *testing.T) {
	c := made(t, "words a 2 bytes b 20 comp c uses a uses b { fn f(x) { a[1] = x b[18] = x } }")
	x, _ := capmachine.New(c.image, 0, []uint64{0x0102030405060708}, nil)
	if strings.Trim(x.Memory().Bytes(), "\x00") != "" {
		t.Errorf("15.4: not all is 0 at first")
	}
	x.Run(api.MaxFuel)
	if s := x.Memory().Bytes(); s[8:16] != "\x08\x07\x06\x05\x04\x03\x02\x01" || s[16+18] != 8 || strings.Count(s, "\x00") != api.MaxMem-9 {
		t.Errorf("15.4: memory has %q", s[:48])
	}
}

// TestEntries: a gate with a param for a region cannot be begun with; the others take integers alone.
func TestEntries(t *testing.T) {
	m := made(t, "bytes a 1 comp c uses a { fn f(x, y) { } fn g(p: reads a) { } fn h(x, p: uses a) { } fn i() { } }").image
	for gate, want := range []struct {
		count int
		e     api.Errno
	}{{2, api.OK}, {1, api.ErrEntry}, {2, api.ErrEntry}, {0, api.OK}} {
		if _, e := capmachine.New(m, gate, make([]uint64, want.count), nil); e != want.e {
			t.Errorf("15.4: the gate %d as an entry: %d, want %d", gate, e, want.e)
		}
		if _, e := capmachine.New(m, gate, make([]uint64, want.count+1), nil); want.e == api.OK && e != api.ErrArgs {
			t.Errorf("15.4: the gate %d with one argument more: %d", gate, e)
		}
	}
}

// TestMadeImages: of each program that the dice make regions, roots and gates are those of its text.
func TestMadeImages(t *testing.T) {
	t.Parallel()
	for seed := range uint64(300) {
		d := rolled(seed + 5000)
		source := d.laid(d.source())
		if e, _ := verdict(source); e != api.OK {
			continue
		}
		tree := parsed(t, source)
		places := placesOf(tree)
		capOf := func(u *node) api.Cap {
			p := places[u.of("name").text]
			perms := api.Load
			if u.text == "uses" {
				perms = rw
			}
			return root(p.base, (p.base+p.size*p.count+15)/16*16, perms)
		}
		var regions []api.Region
		for _, r := range tree.all("region") {
			c := capOf(&node{text: "reads", kids: r.kids})
			regions = append(regions, api.Region{Base: c.Base, Len: c.End - c.Base})
		}
		var roots [][]api.Cap
		var comps []int
		var args [][]api.Type
		for k, c := range tree.all("comp") {
			var l []api.Cap
			for _, u := range c.all("use") {
				l = append(l, capOf(u))
			}
			roots = append(roots, l)
			for _, f := range c.all("fn") {
				var types []api.Type
				for _, p := range f.all("param") {
					a := api.Type{}
					if u := p.of("use"); u != nil {
						c := capOf(u)
						a = lent(c.Base, c.End, c.Perms)
					}
					types = append(types, a)
				}
				comps, args = append(comps, k), append(args, types)
			}
		}
		checkImage(t, source, regions, roots, comps, args)
	}
}

// TestGreatest: the programs that take the most code are right and taken, too.
func TestGreatest(t *testing.T) {
	head := "words a 512 words b 512 words d 512 "
	fill := func(body string, tokens int) string {
		return head + "comp c uses a uses b uses d { fn f(x, y) { " + times(body, (150-9)/tokens) + "} }"
	}
	deep := times("a[", 18) + "in" + times("]", 18)
	for what, source := range map[string]string{
		"elements by names":       fill("a[x] = b[y] ", 9),
		"elements by elements":    fill("a[b[in]] = d[b[in]] ", 15),
		"elements by comparisons": fill("a[1 != 1] = b[1 <= in] ", 13),
		"deep elements":           fill("out "+deep+" ", 2+3*18),
		"deep stores":             fill("a["+deep+"] = "+deep+" ", 4+2*(1+3*18)),
		"comparisons":             fill("out in != in ", 4),
		"comparisons in brackets": fill("out ((in >= in) <= (in != in)) != (in <= in) ", 18),
		"returns":                 fill("return in ", 2),
		"calls":                   fill("x = f(x, y) ", 8),
		"needs":                   fill("need in 1 ", 3),
		"branches":                fill("if x { } else { } ", 7),
		"loops":                   fill("while in { } ", 4),
		"functions":               head + "comp c { " + functionsWith(14, "") + "}",
		"params":                  head + "comp c { " + functionsWith(9, "a0, b0, c0, d0, e0") + "}",
	} {
		m := made(t, source).image
		for _, c := range m.Comps {
			if len(c.Code) > api.MaxCode {
				t.Errorf("15.7: %s: %d instructions", what, len(c.Code))
			}
		}
		if s, e := image.Encode(m); e != api.OK || s == "" {
			t.Errorf("15.7: %s: it cannot be written as bytes: %d", what, e)
		}
	}
}

// functionsWith are so many functions, each with some params.
func functionsWith(n int, params string) string {
	var b strings.Builder
	for k := range n {
		b.WriteString("fn f" + strconv.Itoa(k) + "(" + params + ") { } ")
	}
	return b.String()
}
