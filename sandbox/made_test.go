package sandbox_test

import (
	"strings"
	"testing"

	"paddock/api"
	"paddock/asm"
	"paddock/lang"
	"paddock/sandbox"
)

// compiled is a program of a source of the small language.
func compiled(t *testing.T, source string) *sandbox.Program {
	t.Helper()
	m, e, line := lang.Compile(source)
	if e != api.OK {
		t.Fatalf("Compile: %d, line %d of\n%s", e, line, source)
	}
	return loadedOf(t, m)
}

// checkDoes runs a function on both machines; where it ends is the compiler's own, so that it is not held against anything but itself.
func checkDoes(t *testing.T, what string, p *sandbox.Program, b begun, end api.End, value uint64, out []uint64, touches []api.Touch) {
	t.Helper()
	b.fuel = api.MaxFuel
	r, e := p.Run(b.gate, b.args, b.inputs, b.fuel)
	if e != api.OK {
		t.Errorf("16.2: %s: %d", what, e)
		return
	}
	want := api.Result{Outcome: api.Outcome{End: end, Value: value, Gate: r.Outcome.Gate, Pc: r.Outcome.Pc}, Out: out, Touches: touches}
	checkRuns(t, what, p, b, want)
}

// filling is the first example of chapter 15.
const filling = `words a 8
comp main uses a {
  fn fill(n) {
    let i = 0
    while i < n { a[i] = i * i  i = i + 1 }
    let t = sum(a)
    return t
  }
}
comp other {
  fn sum(p: reads a) {
    let i = 0  let s = 0
    while i < 8 { s = s + p[i]  i = i + 1 }
    return s
  }
}
`

// words are touches of elements of 8 bytes from 0 on.
func words(store bool, n int) []api.Touch {
	var l []api.Touch
	for k := range n {
		l = append(l, api.Touch{Store: store, Addr: 8 * uint64(k), Size: 8})
	}
	return l
}

// TestCompiled: from a source of the small language to what comes of it.
func TestCompiled(t *testing.T) {
	p := compiled(t, filling)
	for range 2 {
		checkDoes(t, "Example 10", p, begun{args: []uint64{4}}, api.Halted, 14, nil, append(words(true, 4), words(false, 8)...))
		checkDoes(t, "fill of none", p, begun{args: []uint64{0}}, api.Halted, 0, nil, words(false, 8))
		checkDoes(t, "fill of too many", p, begun{args: []uint64{9}}, api.Guarded, 255, nil, words(true, 8))
	}
	checkNoRun(t, "sum", p, begun{gate: 1, args: []uint64{0}, fuel: 99}, api.ErrEntry)
	checkNoRun(t, "sum without arguments", p, begun{gate: 1, fuel: 99}, api.ErrEntry)
	checkNoRun(t, "no third function", p, begun{gate: 2, args: []uint64{0}, fuel: 99}, api.ErrEntry)
	checkNoRun(t, "fill of nothing", p, begun{fuel: 99}, api.ErrArgs)

	p = compiled(t, "comp c { fn f(x) { return x + in } }")
	checkDoes(t, "with an input", p, begun{args: []uint64{1}, inputs: []uint64{2}}, api.Halted, 3, nil, nil)
	checkDoes(t, "without one", p, begun{args: []uint64{1}}, api.Starved, 0, nil, nil)

	p = compiled(t, "comp c { fn f(x) { out x let y = f(x + 1) return y } fn g() { need in 7 trap 9 } fn h() { while 1 { out in } } }")
	checkDoes(t, "too deep", p, begun{args: []uint64{0}}, api.Overflow, 0, []uint64{0, 1, 2, 3, 4, 5, 6, 7, 8, 9, 10, 11, 12, 13, 14, 15, 16}, nil)
	checkDoes(t, "need that fails", p, begun{gate: 1, inputs: []uint64{0}}, api.Guarded, 7, nil, nil)
	checkDoes(t, "trap", p, begun{gate: 1, inputs: []uint64{5}}, api.Trapped, 9, nil, nil)
	checkDoes(t, "all inputs", p, begun{gate: 2, inputs: []uint64{5, top, 6}}, api.Starved, 0, []uint64{5, top, 6}, nil)
	checkDoes(t, "too little fuel", compiled(t, "comp c { fn f() { while 1 { } } }"), begun{}, api.Spent, 0, nil, nil)
}

// TestCompiledMemory: what one run of a source leaves in its regions no other one finds.
func TestCompiledMemory(t *testing.T) {
	p := compiled(t, "bytes b 3 words w 2 comp c uses b uses w { fn f() { b[2] = b[2] + 257 w[1] = w[1] - 1 out b[2] return w[1] } }")
	touches := []api.Touch{load(2, 1), store(2, 1), load(24, 8), store(24, 8), load(2, 1), load(24, 8)}
	for range 3 {
		checkDoes(t, "bytes and words", p, begun{}, api.Halted, top, []uint64{1}, touches)
	}
}

// TestParsed: a text, what Print makes of it, and its bytes do the same.
func TestParsed(t *testing.T) {
	for _, x := range examples() {
		m, e, _ := asm.Parse("; a remark\n" + strings.ReplaceAll(x.text, ";", " ; a remark\n\n\t"))
		if e != api.OK {
			t.Fatalf("Parse: %d", e)
		}
		printed, e := asm.Print(m)
		if e != api.OK {
			t.Fatalf("Print: %d", e)
		}
		again, e, _ := asm.Parse(printed)
		if e != api.OK {
			t.Fatalf("Parse of what is printed: %d", e)
		}
		for _, m := range []api.Image{m, again} {
			checkRuns(t, "Example "+x.name+", as a text", loadedOf(t, m), x.begun, x.want)
		}
	}
}
