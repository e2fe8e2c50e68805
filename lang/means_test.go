package lang_test

import (
	"slices"
	"strconv"
	"testing"

	"paddock/api"
)

const top = ^uint64(0)

// meant is a source with what it does from the gate 0.
type meant struct {
	source string
	args   []uint64
	inputs []uint64
	end    api.End
	value  uint64
	out    []uint64
}

func args(l ...uint64) []uint64 { return l }

// checkMeant asks both machines; the plain reading is asked, too, so that it says what the words say.
func checkMeant(t *testing.T, what string, l []meant) {
	t.Helper()
	for _, c := range l {
		s := ran(t, c.source, 0, c.args, c.inputs...)
		if s.end != c.end || s.value != c.value || !slices.Equal(s.out, c.out) {
			t.Errorf("%s: %q with %v and %v: %d with %d, put out %v, want %d with %d, %v", what, c.source, c.args, c.inputs, s.end, s.value, s.out, c.end, c.value, c.out)
		}
	}
}

// exprs is a program that gives an expr of x, y and z back.
func exprs(e string) string { return "comp c { fn f(x, y, z) { return " + e + " } }" }

// TestReckoning: numbers have 64 bits and go round; moves are modulo 64; comparisons have no sign.
func TestReckoning(t *testing.T) {
	for _, c := range []struct {
		e    string
		x, y uint64
		want uint64
	}{
		{"x + y", 3, 4, 7}, {"x + y", top, 1, 0}, {"x + y", top, top, top - 1}, {"x - y", 3, 4, top}, {"x - y", 0, top, 1}, {"x * y", 1 << 32, 1 << 32, 0}, {"x * y", top, top, 1}, {"x * y", 7, 6, 42}, {"x & y", 12, 10, 8}, {"x | y", 12, 10, 14}, {"x ^ y", 12, 10, 6}, {"x ^ y", top, 1, top - 1},
		{"x << y", 1, 63, 1 << 63}, {"x << y", 1, 64, 1}, {"x << y", 1, 65, 2}, {"x << y", 3, 63, 1 << 63}, {"x << y", 1, top, 1 << 63}, {"x << y", 5, 0, 5}, {"x >> y", 1 << 63, 63, 1}, {"x >> y", 1 << 63, 64, 1 << 63}, {"x >> y", 8, 67, 1}, {"x >> y", top, 1, top >> 1}, {"x >> y", top, top, 1},
		{"x == y", 5, 5, 1}, {"x == y", 5, 6, 0}, {"x != y", 5, 5, 0}, {"x != y", 5, 6, 1}, {"x != y", 6, 5, 1}, {"x != y", 0, top, 1}, {"x < y", 1, top, 1}, {"x < y", top, 1, 0}, {"x < y", 5, 5, 0}, {"x < y", 1 << 63, 1<<63 - 1, 0}, {"x <= y", 5, 5, 1}, {"x <= y", 5, 6, 1}, {"x <= y", 6, 5, 0}, {"x <= y", top, 0, 0}, {"x > y", 6, 5, 1}, {"x > y", 5, 5, 0}, {"x > y", 5, 6, 0}, {"x > y", top, 0, 1}, {"x >= y", 5, 5, 1}, {"x >= y", 6, 5, 1}, {"x >= y", 5, 6, 0}, {"x >= y", 0, top, 0},
		{"-x", 0, 0, 0}, {"-x", 1, 0, top}, {"-x", top, 0, 1}, {"--x", 7, 0, 7}, {"!x", 0, 0, 1}, {"!x", 1, 0, 0}, {"!x", top, 0, 0}, {"!!x", 9, 0, 1}, {"-!x", 0, 0, top}, {"!-x", 5, 0, 0}, {"x", 9, 0, 9}, {"(x)", 9, 0, 9}, {"2147483647 + x", 1, 0, 1 << 31}, {"x == x", 3, 0, 1}, {"x - x", 3, 0, 0}, {"x < x", 3, 0, 0},
	} {
		if s := ran(t, exprs(c.e), 0, []uint64{c.x, c.y, 0}); s.end != api.Halted || s.value != c.want {
			t.Errorf("15.6: %s with %d and %d is %d, want %d", c.e, c.x, c.y, s.value, c.want)
		}
	}
}

// TestBinding: which operators bind more, and that they are worked out from the left on.
func TestBinding(t *testing.T) {
	for _, c := range []struct {
		e    string
		want uint64
	}{
		{"2 + 3 * 4", 14}, {"2 * 3 + 4", 10}, {"(2 + 3) * 4", 20}, {"10 - 3 - 2", 5}, {"10 - (3 - 2)", 9}, {"1 | 2 ^ 3", 0}, {"1 ^ 3 | 2", 2}, {"6 & 3 | 8", 10}, {"8 | 6 & 3", 10}, {"1 + 1 << 3", 9}, {"(1 + 1) << 3", 16}, {"64 >> 2 >> 1", 8}, {"64 >> (2 >> 1)", 32}, {"2 * 3 & 5", 4}, {"3 & 5 * 2", 2}, {"1 + 1 == 2", 1}, {"2 == 1 + 1", 1}, {"1 < 2 + 3 * 4", 1}, {"-1 + 2", 1}, {"-(1 + 2) + 4", 1}, {"!0 + 1", 2}, {"!(0 + 1)", 0}, {"-1 * -1", 1}, {"2 - -2", 4}, {"7 - 2 + 3", 8}, {"7 - 2 * 3 - 1", 0}, {"1 << 2 * 3", 12}, {"(1 < 2) < 2", 1}, {"3 - 1 ^ 1 - 3", 0},
	} {
		if s := ran(t, exprs(c.e), 0, []uint64{0, 0, 0}); s.end != api.Halted || s.value != c.want {
			t.Errorf("15.2, 15.6: %s is %d, want %d", c.e, s.value, c.want)
		}
	}
}

// TestLeftFirst: inputs are taken, and elements touched, from the left on, and both sides always.
func TestLeftFirst(t *testing.T) {
	for _, sign := range []string{"+", "-", "*", "&", "|", "^", "<<", ">>", "==", "!=", "<", "<=", ">", ">="} {
		for _, in := range [][]uint64{{9, 2}, {2, 9}, {0, 0}, {0, 1}} {
			s := ran(t, exprs("in "+sign+" in"), 0, []uint64{0, 0, 0}, in...)
			if s.end != api.Halted || s.value != reckoned(sign, in[0], in[1]) {
				t.Errorf("15.6: %d %s %d: %+v", in[0], sign, in[1], s)
			}
			if s := ran(t, exprs("in "+sign+" in"), 0, []uint64{0, 0, 0}, in[0]); s.end != api.Starved {
				t.Errorf("15.6: %d %s without an input: %+v", in[0], sign, s)
			}
		}
	}
	s := ran(t, "bytes a 9 comp c reads a { fn f() { return a[1] < a[2] + a[3] * a[a[4] + 5] } }", 0, nil)
	var at []uint64
	for _, x := range s.touches {
		at = append(at, x.Addr)
	}
	if !slices.Equal(at, []uint64{1, 2, 3, 4, 5}) {
		t.Errorf("15.6: touched at %v", at)
	}
	// Each height, so that nothing that is not worked out yet is lost.
	for h := 1; h <= 6; h++ {
		left := "in"
		right := "in"
		for range h - 1 {
			left += " - in"
			right = "in - (" + right + ")"
		}
		for _, e := range []string{left, right, "(" + right + ") * in", "-(" + right + ")", "!(" + right + ") + in"} {
			ran(t, exprs(e), 0, []uint64{0, 0, 0}, 3, 5, 7, 11, 13, 17, 19)
			ran(t, "comp c { fn f(x) { x = "+e+" out x let y = "+e+" out y need "+e+" 1 while "+e+" { } } }", 0, []uint64{0}, 3, 5, 7, 11, 13, 17, 19, 23, 29, 31, 37, 41, 43, 47, 53, 59)
		}
	}
}

// TestStatements: what each does.
func TestStatements(t *testing.T) {
	checkMeant(t, "15.5: let and =", []meant{
		{"comp c { fn f(x) { let y = x + 1 x = y * 2 y = y y = x - y out x out y } }", args(4), nil, api.Halted, 0, args(10, 5)}, {"comp c { fn f(x, y) { let z = x x = y y = z out x out y } }", args(1, 2), nil, api.Halted, 0, args(2, 1)}, {"comp c { fn f(x) { x = x * x - x x = -x x = !x return x } }", args(1), nil, api.Halted, 1, nil}, {"comp c { fn f(x) { x = x != 3 out x x = x <= 0 out x } }", args(4), nil, api.Halted, 0, args(1, 0)}, {"comp c { fn f() { let y = 5 if 1 { let z = 6 y = y + z } if 1 { let z = 0 out z } return y } }", nil, nil, api.Halted, 11, args(0)},
		{"comp c { fn f(x) { while x { let y = 7 out y y = x x = x - 1 } } }", args(2), nil, api.Halted, 0, args(7, 7)},
	})
	checkMeant(t, "15.5: if and while", []meant{
		{"comp c { fn f(x) { if x { out 1 } else { out 2 } out 3 } }", args(5), nil, api.Halted, 0, args(1, 3)}, {"comp c { fn f(x) { if x { out 1 } else { out 2 } out 3 } }", args(0), nil, api.Halted, 0, args(2, 3)}, {"comp c { fn f(x) { if x { out 1 } out 3 } }", args(0), nil, api.Halted, 0, args(3)}, {"comp c { fn f(x) { if x { } else { out 1 } out 3 } }", args(top), nil, api.Halted, 0, args(3)}, {"comp c { fn f(x) { if x { } else { } if x { } } }", args(top), nil, api.Halted, 0, nil}, {"comp c { fn f(x) { if x { if x - 1 { out 1 } else { out 2 } } else { if x { out 3 } else { out 4 } } } }", args(1), nil, api.Halted, 0, args(2)},
		{"comp c { fn f(x) { while x { out x x = x - 1 } } }", args(3), nil, api.Halted, 0, args(3, 2, 1)}, {"comp c { fn f(x) { while x { out x x = x - 1 } out 9 } }", args(0), nil, api.Halted, 0, args(9)}, {"comp c { fn f(x) { while 0 { out x } while 0 { trap 1 } out 9 } }", args(7), nil, api.Halted, 0, args(9)}, {"comp c { fn f() { while in { } out in } }", nil, args(5, 6, 0, 7), api.Halted, 0, args(7)}, {"comp c { fn f(x) { while x < 3 { let y = 0 while y < x { out y y = y + 1 } x = x + 1 } } }", args(0), nil, api.Halted, 0, args(0, 0, 1)}, {"comp c { fn f(x) { while 1 { if x == 2 { return 8 } x = x + 1 } } }", args(0), nil, api.Halted, 8, nil},
	})
	checkMeant(t, "15.5: out, need, trap and return", []meant{
		{"comp c { fn f(x) { out x out 0 out 2147483647 out in } }", args(top), args(5), api.Halted, 0, args(top, 0, 2147483647, 5)}, {"comp c { fn f(x) { need x 0 out 1 } }", args(0), nil, api.Guarded, 0, nil}, {"comp c { fn f(x) { need x 255 out 1 } }", args(0), nil, api.Guarded, 255, nil}, {"comp c { fn f(x) { need x 9 out 1 } }", args(1), nil, api.Halted, 0, args(1)}, {"comp c { fn f(x) { need x 9 out 1 } }", args(top), nil, api.Halted, 0, args(1)}, {"comp c { fn f() { need 0 9 out 1 } }", nil, nil, api.Guarded, 9, nil}, {"comp c { fn f() { need 5 9 out 1 } }", nil, nil, api.Halted, 0, args(1)}, {"comp c { fn f(x) { need x == 3 1 need x - 3 2 } }", args(3), nil, api.Guarded, 2, nil},
		{"comp c { fn f() { out 1 trap 0 out 2 } }", nil, nil, api.Trapped, 0, args(1)}, {"comp c { fn f() { trap 255 } }", nil, nil, api.Trapped, 255, nil}, {"comp c { fn f(x) { if x { trap 1 } trap 2 } }", args(1), nil, api.Trapped, 1, nil},
	})
	checkMeant(t, "15.5: return", []meant{
		{"comp c { fn f(x) { return x out 1 } }", args(6), nil, api.Halted, 6, nil}, {"comp c { fn f(x) { return 1 return 2 } }", args(6), nil, api.Halted, 1, nil}, {"comp c { fn f(x) { if x { return 1 } return 2 } }", args(6), nil, api.Halted, 1, nil}, {"comp c { fn f(x) { if x { return 1 } } }", args(0), nil, api.Halted, 0, nil}, {"comp c { fn f(x) { out x } }", args(6), nil, api.Halted, 0, args(6)}, {"comp c { fn f(x, y) { x = y } }", args(6, 7), nil, api.Halted, 0, nil}, {"comp c { fn f(x) { return in + in * in } }", args(6), args(1, 2, 3), api.Halted, 7, nil}, {"comp c { fn f(x) { return -1 } }", args(6), nil, api.Halted, top, nil},
	})
}

// TestElements: at a region's end and behind it, with numbers and with exprs, of bytes and of words.
func TestElements(t *testing.T) {
	for _, n := range []int{1, 2, 3, 8, 15, 16, 17, 511, 512} {
		for _, kind := range []string{"bytes ", "words "} {
			head := "words o 3 " + kind + "a " + strconv.Itoa(n) + " bytes u 5 comp c uses a uses o uses u { fn f(i, v) "
			for _, i := range []uint64{0, uint64(n) - 1, uint64(n), uint64(n) + 1, 2 * uint64(n), 1 << 32, 1 << 61, 1<<61 + 1, 1 << 63, top} {
				in := i < uint64(n)
				for _, body := range []string{"{ a[i] = v out a[i] }", "{ a[i + 0] = v out a[i + 0] }", "{ a[(i)] = v out a[-(-i)] }", "{ g(a, i, v) }", "{ a[i] = in out a[i] }"} {
					source := head + body + " fn g(p: uses a, j, w) { p[j] = w h(p, j) } fn h(q: reads a, j) { out q[j] } }"
					s := ran(t, source, 0, []uint64{i, 0x1234567890abcdef}, 0x1234567890abcdef)
					want := uint64(0x1234567890abcdef)
					if kind == "bytes " {
						want = 0xef
					}
					if in && (s.end != api.Halted || !slices.Equal(s.out, args(want)) || len(s.touches) != 2) {
						t.Fatalf("15.5, 15.6: %q with %d: %+v", source, i, s)
					}
					if !in && (s.end != api.Guarded || s.value != 255 || len(s.touches) != 0) {
						t.Fatalf("15.5, 15.6: %q with %d: %+v", source, i, s)
					}
				}
			}
			last := strconv.Itoa(n - 1)
			s := ran(t, head+"{ a["+last+"] = v out a["+last+"] out a[("+last+")] out a["+last+" + 1] } }", 0, []uint64{0, 77})
			if s.end != api.Guarded || s.value != 255 || !slices.Equal(s.out, args(77, 77)) || len(s.touches) != 3 {
				t.Errorf("15.5, 15.6: by numbers, of %d: %+v", n, s)
			}
		}
	}
}

// TestStoreOrder: the number of the element, then whether it is one, then what is stored, then the touch.
func TestStoreOrder(t *testing.T) {
	checkMeant(t, "15.5: r[e] = f", []meant{
		{"bytes a 4 comp c uses a { fn f(i) { a[i] = in } }", args(4), nil, api.Guarded, 255, nil}, {"bytes a 4 comp c uses a { fn f(i) { a[i] = in } }", args(3), nil, api.Starved, 0, nil}, {"bytes a 4 comp c uses a { fn f(i) { a[in] = in out a[2] } }", args(3), args(2, 8), api.Halted, 0, args(8)}, {"bytes a 4 comp c uses a { fn f(i) { a[in] = in out a[2] } }", args(3), args(8, 2), api.Guarded, 255, nil}, {"words a 4 comp c uses a { fn f(i) { a[i] = a[i + 1] } }", args(3), nil, api.Guarded, 255, nil}, {"words a 4 comp c uses a { fn f(i) { a[i] = a[a[i] + 4] } }", args(5), nil, api.Guarded, 255, nil},
		{"words a 4 comp c uses a { fn f(i) { a[1] = 7 a[2] = a[1] + a[1] out a[2] a[a[0] + 2] = a[2] - a[1] out a[2] out a[3] } }", args(5), nil, api.Halted, 0, args(14, 7, 0)}, {"bytes a 2 comp c uses a { fn f(i) { a[0] = 256 out a[0] a[0] = 511 out a[0] a[1] = -1 out a[1] out a[0] + a[1] } }", args(5), nil, api.Halted, 0, args(0, 255, 255, 510)}, {"words a 2 comp c uses a { fn f(i) { a[i] = -1 out a[1] out a[0] } }", args(1), nil, api.Halted, 0, args(top, 0)},
	})
	s := ran(t, "words a 4 bytes b 4 comp c uses a uses b { fn f(i) { a[b[i]] = b[i + 1] + a[2] b[a[0]] = 1 } }", 0, args(1))
	want := []api.Touch{{Addr: 33, Size: 1}, {Addr: 34, Size: 1}, {Addr: 16, Size: 8}, {Store: true, Addr: 0, Size: 8}, {Addr: 0, Size: 8}, {Store: true, Addr: 32, Size: 1}}
	if !slices.Equal(s.touches, want) {
		t.Errorf("15.5: touched %v, want %v", s.touches, want)
	}
	// What is stored may be as high as may be, and by an element that is.
	for h := 1; h <= 5; h++ {
		value := "in"
		for range h - 1 {
			value = "in - (" + value + ")"
		}
		for _, index := range []string{"1", "i", "in", "in - (in - (in - (in - (in - in))))", "a[a[i] + in]"} {
			ran(t, "words a 4 comp c uses a { fn f(i) { a["+index+"] = "+value+" out a[0] out a[1] out a[2] out a[3] } }", 0, args(2), 3, 1, 2, 2, 3, 1, 5, 9, 100, 7, 8, 9)
			ran(t, "bytes a 4 comp c uses a { fn f(i) { a["+index+"] = "+value+" out a[0] out a[1] out a[2] out a[3] } }", 0, args(2), 1, 0, 0, 0, 0, 0, 5, 9, 100, 7, 8, 9)
		}
	}
}

// TestCalls: args from the first one on, what comes back, and that nothing else changes.
func TestCalls(t *testing.T) {
	checkMeant(t, "15.5: calls", []meant{
		{"comp c { fn f(x) { let y = g(x, x + 1) out y y = g(y, 1) return y } fn g(a, b) { return a * 10 + b } }", args(2), nil, api.Halted, 231, args(23)}, {"comp c { fn f(x) { g(in, in, in, in, in) } fn g(a, b, d, e, h) { out a out b out d out e out h } }", args(2), args(5, 6, 7, 8, 9), api.Halted, 0, args(5, 6, 7, 8, 9)}, {"comp c { fn f(x) { let y = g() out y } fn g() { } }", args(2), nil, api.Halted, 0, args(0)}, {"comp c { fn f(a, b, d, e, h) { g(h, e, d, b, a) out a out b out d out e out h } fn g(a, b, d, e, h) { a = 0 b = 0 d = 0 e = 0 h = 0 return 99 } }", args(1, 2, 3, 4, 5), nil, api.Halted, 0, args(1, 2, 3, 4, 5)}, {"comp c { fn f(a, b) { a = g(b, a) b = g(a, b) out a out b } } comp d { fn g(x, y) { let z = x - y return z } }", args(1, 5), nil, api.Halted, 0, args(4, top)},
		{"comp c { fn f(x) { if x { let y = f(x - 1) return y + x } } }", args(16), nil, api.Halted, 136, nil}, {"comp c { fn f(x) { if x { let y = f(x - 1) return y + x } } }", args(17), nil, api.Overflow, 0, nil}, {"comp c { fn f(x) { out x f(x + 1) } }", args(0), nil, api.Overflow, 0, args(0, 1, 2, 3, 4, 5, 6, 7, 8, 9, 10, 11, 12, 13, 14, 15, 16)}, {"comp c { fn f(x) { out x g(x + 1) } } comp d { fn g(x) { f(x) } }", args(0), nil, api.Overflow, 0, args(0, 1, 2, 3, 4, 5, 6, 7, 8)}, {"comp c { fn f(x) { if x == 16 { f(in) } f(x + 1) } }", args(0), nil, api.Starved, 0, nil}, {"comp c { fn f(x) { if x == 16 { f(in) } f(x + 1) } }", args(0), args(1), api.Overflow, 0, nil}, {"comp c { fn f() { let x = 0 while x < 40 { g() x = x + 1 } return x } fn g() { } }", nil, nil, api.Halted, 40, nil},
		{"comp c { fn f() { g() out 2 } fn g() { h() out 1 } fn h() { trap 7 } }", nil, nil, api.Trapped, 7, nil}, {"comp c { fn f() { g() out 2 } fn g() { return 5 out 1 } }", nil, nil, api.Halted, 0, args(2)}, {"comp c { fn f() { g() out in } fn g() { out in } }", nil, args(1, 2), api.Halted, 0, args(1, 2)},
	})
	// As high as an arg may be at its place.
	for k := range 5 {
		for h := 1; k+h <= 7; h++ {
			e := "in"
			for range h - 1 {
				e = "in - (" + e + ")"
			}
			call := "g(" + times("in, ", k) + e + times(", in", 4-k) + ")"
			ran(t, "words r 3 comp c uses r { fn f(x) { "+call+" x = "+call+" out x } fn g(a, b, d, e, h) { out a out b out d out e out h return a * b - d } }", 0, args(9), 2, 3, 5, 7, 11, 13, 17, 19, 23, 29, 31, 37, 41, 43, 47, 53, 59, 61, 67, 71, 73, 79)
		}
	}
	// The highest of all is an element of words.
	ran(t, "words r 3 comp c uses r { fn f(x) { r[1] = 1 g(x, x, x, x, r[x]) g(in + (in + (in + (in + (in + r[r[1] + x])))), 1, 1, 1, r[r[r[x]]]) } fn g(a, b, d, e, h) { out a out b out d out e out h } }", 0, args(1), 1, 2, 3, 4, 5, 6)
}

// TestLent: params for regions are the regions, to be read or used, over several calls and compartments.
func TestLent(t *testing.T) {
	checkMeant(t, "15.5: params for regions", []meant{
		{"bytes b 3 comp c uses b { fn f() { g(b, 7) out b[1] } fn g(p: uses b, v) { p[1] = v h(p) } fn h(q: reads b) { out q[1] + 1 } }", nil, nil, api.Halted, 0, args(8, 7)}, {"words a 3 bytes b 2 comp c uses a uses b { fn f() { g(1, a, 2, b, 3) out a[2] out b[1] } } comp d { fn g(x, p: uses a, y, q: uses b, z) { p[y] = x + 10 q[x] = z + 20 h(q, p) } } comp e { fn h(q: reads b, p: reads a) { out q[1] out p[2] } }", nil, nil, api.Halted, 0, args(23, 11, 11, 23)}, {"bytes a 4 comp c reads a { fn f(i) { g(a, i) } fn g(p: reads a, i) { out p[i] } }", args(4), nil, api.Guarded, 255, nil}, {"bytes a 4 comp c uses a { fn f(i) { g(a, a, i) } fn g(p: uses a, q: reads a, i) { p[i] = 9 out q[i] out q[0] } }", args(3), nil, api.Halted, 0, args(9, 0)},
		{"words a 2 comp c uses a { fn f(n) { g(a, n) out a[0] } fn g(p: uses a, n) { p[0] = p[0] + 1 if n { g(p, n - 1) } } }", args(5), nil, api.Halted, 0, args(6)}, {"words a 2 comp c uses a { fn f(n) { g(a, n) out a[0] } fn g(p: uses a, n) { p[0] = p[0] + 1 if n { g(p, n - 1) } } }", args(15), nil, api.Halted, 0, args(16)}, {"words a 2 comp c uses a { fn f(n) { g(a, n) out a[0] } fn g(p: uses a, n) { p[0] = p[0] + 1 if n { g(p, n - 1) } } }", args(16), nil, api.Overflow, 0, nil},
	})
}

// TestInputs: they are taken one by one, and when none is left the run is Starved there.
func TestInputs(t *testing.T) {
	source := "bytes a 2 comp c uses a { fn f() { let s = 0 let n = in while n { s = s + in n = n - 1 } a[in] = s out a[in] return s } }"
	inputs := args(3, 10, 20, 30, 1, 1)
	for n := range inputs {
		if s := ran(t, source, 0, nil, inputs[:n]...); s.end != api.Starved {
			t.Errorf("15.6: with %d inputs: %+v", n, s)
		}
	}
	for _, more := range [][]uint64{nil, {9}, {9, 9}} {
		if s := ran(t, source, 0, nil, append(slices.Clone(inputs), more...)...); s.end != api.Halted || s.value != 60 || !slices.Equal(s.out, args(60)) {
			t.Errorf("15.6: %+v", s)
		}
	}
}
