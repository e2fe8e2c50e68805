package lang_test

import (
	"testing"

	"paddock/api"
)

// stepped are sources of every kind of statement and expr, with what they are run with.
var stepped = []struct {
	source string
	args   []uint64
	inputs []uint64
}{
	{sums, []uint64{4}, nil}, {sums, []uint64{9}, nil}, {sums, []uint64{0}, nil},
	{"comp c { fn f() { } }", nil, nil},
	{"comp c { fn f(a, b, d, e, h) { } }", []uint64{1, 2, 3, 4, 5}, nil},
	{"comp c { fn f(x) { return x } }", []uint64{1}, nil},
	{"comp c { fn f(x) { while x { x = x - 1 out x } trap 3 } }", []uint64{6}, nil},
	{"comp c { fn f(x) { while x { } } }", []uint64{0}, nil},
	{"comp c { fn f(x) { if x { out 1 } else { out 2 } if !x { out 3 } need x == 1 5 } }", []uint64{1}, nil},
	{"comp c { fn f(x) { if x { out 1 } else { out 2 } if !x { out 3 } need x == 1 5 } }", []uint64{0}, nil},
	{"comp c { fn f(x) { let y = f(x + 1) return y } }", []uint64{0}, nil},
	{"comp c { fn f(x) { out in != in out in <= in out in >= in out -in * !in } }", []uint64{0}, []uint64{1, 2, 3, 4, 5, 6, 7}},
	{"words a 3 bytes b 5 comp c uses a uses b { fn f(i) { a[i] = in b[a[i]] = in out a[b[i]] + b[a[i]] g(a, b, i) out a[0] } } comp d { fn g(p: uses a, q: reads b, i) { p[0] = q[i + 2] p[i] = -1 h(p, q) } fn h(p: reads a, q: reads b) { out p[1] out q[4] } }", []uint64{1}, []uint64{3, 2}},
	{"words a 3 comp c uses a { fn f(i) { out a[a[a[a[a[a[i]]]]]] a[a[a[i]]] = a[a[i]] } }", []uint64{1}, nil},
	{"comp c { fn f() { g(1, 2, 3, 4, 5) g(in, in, in, in, in) } fn g(a, b, d, e, h) { h() } fn h() { } }", nil, []uint64{1, 2, 3, 4, 5}},
	{"comp c { fn f() { g(1, 2, 3, 4, 5) g(in, in, in, in, in) } fn g(a, b, d, e, h) { h() } fn h() { } }", nil, []uint64{1, 2, 3}},
}

// TestFuelEverywhere: with each fuel what was put out and touched is the beginning of what would be; with enough of it, all.
func TestFuelEverywhere(t *testing.T) {
	t.Parallel()
	for _, x := range stepped {
		tree, c := parsed(t, x.source), made(t, x.source)
		s := told(tree, 0, x.args, x.inputs, 1<<16)
		b := begun{0, x.args, x.inputs}
		c.ends(t, b, s)
		spent := 0
		for fuel := range 10*s.units + 12 {
			c.begins(t, b, fuel, s)
			if c.machines(t, b)[0].Run(fuel).End == api.Spent {
				spent++
			}
		}
		if spent == 0 || spent > 10*s.units+10 {
			t.Errorf("15.8: %q takes %d steps, for %d units", x.source, spent, s.units)
		}
	}
}

// TestRoundsAreCheap: of a loop that goes on for long each round takes no more than its units are worth.
func TestRoundsAreCheap(t *testing.T) {
	for _, source := range []string{
		"comp c { fn f(n) { while n { n = n - 1 } } }", "words a 512 comp c uses a { fn f(n) { while n { a[n] = a[n] + n n = n - 1 } } }", "comp c { fn f(n) { while n { g() n = n - 1 } } fn g() { } }", "words a 4 comp c uses a { fn f(n) { while n { g(n, a, n, a, n) n = n - 1 } } fn g(x, p: reads a, y, q: uses a, z) { q[x & 3] = p[y & 3] } }", "comp c { fn f(n) { while n >= 1 { if n != 3 { out n } else { out !n } n = n - 1 } } }",
	} {
		tree, c := parsed(t, source), made(t, source)
		for _, n := range []uint64{1, 10, 100, 400} {
			s := told(tree, 0, []uint64{n}, nil, 1<<16)
			if s.end != api.Halted {
				t.Fatalf("%q with %d: %+v", source, n, s)
			}
			c.ends(t, begun{0, []uint64{n}, nil}, s)
		}
	}
}

// TestEndless: one that never ends is Spent, with any fuel.
func TestEndless(t *testing.T) {
	for _, source := range []string{"comp c { fn f() { while 1 { } } }", "comp c { fn f() { let x = 0 while x < 1 { out x } } }", "bytes a 1 comp c uses a { fn f() { while !a[0] { } } }"} {
		tree, c := parsed(t, source), made(t, source)
		s := told(tree, 0, nil, nil, 1<<16)
		if s.end != api.Running {
			t.Fatalf("%q ends", source)
		}
		for _, fuel := range []int{0, 1, 2, 3, 4, 5, 6, 7, 100, 5000} {
			c.begins(t, begun{}, fuel, s)
			if o := c.machines(t, begun{})[1].Run(fuel); o.End != api.Spent {
				t.Errorf("15.8: %q with the fuel %d: %+v", source, fuel, o)
			}
		}
	}
}
