package lang_test

import (
	"slices"
	"strings"
	"testing"

	"paddock/api"
	"paddock/capmachine"
	"paddock/erase"
	"paddock/fastvm"
)

// sums is the chapter's first example.
const sums = `words a 8
comp main uses a {
  fn fill(n) {
    let i = 0
    while i < n { a[i] = i * i  i = i + 1 }
    let t = sum(a)
    return t
  }
}
comp other {
  fn sum(p: reads a) {
    let i = 0  let s = 0
    while i < 8 { s = s + p[i]  i = i + 1 }
    return s
  }
}
`

func TestExampleOne(t *testing.T) {
	c := made(t, sums)
	if len(c.image.Comps) != 2 || len(c.image.Gates) != 2 {
		t.Errorf("15.4: %d compartments, %d gates", len(c.image.Comps), len(c.image.Gates))
	}
	for _, x := range c.machines(t, begun{0, []uint64{9}, nil}) {
		o := x.Run(api.MaxFuel)
		if o.End != api.Guarded || o.Value != 255 || len(x.Touches()) != 8 || slices.ContainsFunc(x.Touches(), func(x api.Touch) bool { return !x.Store }) {
			t.Errorf("15.5: with 9: %+v, touched %v", o, x.Touches())
		}
	}
	if _, e := capmachine.New(c.image, 1, []uint64{0}, nil); e != api.ErrEntry {
		t.Errorf("15.4: the gate 1 as an entry: %d", e)
	}
	checkWrong(t, "15.3: example 1", strings.Replace(sums, "return s\n", "p[i] = 1 return s\n", 1), api.ErrSort, 14)
	checkWrong(t, "15.3: example 1", strings.Replace(sums, "s + p[i]", "s + a[i]", 1), api.ErrKnown, 13)
}

// TestWhole is the tenth example of the whole.
func TestWhole(t *testing.T) {
	c := made(t, sums)
	var want []api.Touch
	for k := range uint64(4) {
		want = append(want, api.Touch{Store: true, Addr: 8 * k, Size: 8})
	}
	for k := range uint64(8) {
		want = append(want, api.Touch{Addr: 8 * k, Size: 8})
	}
	for _, x := range c.machines(t, begun{0, []uint64{4}, nil}) {
		if o := x.Run(api.MaxFuel); o.End != api.Halted || o.Value != 14 || len(x.Out()) != 0 || !slices.Equal(x.Touches(), want) {
			t.Errorf("T8: %+v, put out %v, touched %v", o, x.Out(), x.Touches())
		}
	}
}

func TestExampleTwo(t *testing.T) {
	sum := "comp c { fn f(x) { return x + in } }"
	if s := ran(t, sum, 0, []uint64{1}, 2); s.end != api.Halted || s.value != 3 {
		t.Errorf("15.6: %+v", s)
	}
	if s := ran(t, sum, 0, []uint64{1}); s.end != api.Starved {
		t.Errorf("15.6: %+v", s)
	}
	checkWrong(t, "15.2: example 2", "comp c { fn f(x) { return f\n(x) } }", api.ErrLang, 2)
	if s := ran(t, "comp c { fn f(x) { let y = f(x) return y } }", 0, []uint64{1}); s.end != api.Overflow {
		t.Errorf("15.5: %+v", s)
	}
}

// TestStepByStep: behind each step the second machine's state is what is left of the first one's (T2), and no run faults (T1).
func TestStepByStep(t *testing.T) {
	t.Parallel()
	steps := 0
	for seed := range uint64(120) {
		d := rolled(seed + 9000)
		source := d.laid(d.source())
		if e, _ := verdict(source); e != api.OK {
			continue
		}
		tree, c := parsed(t, source), made(t, source)
		for _, x := range entries(tree) {
			args, inputs := d.numbers(x.args), d.numbers(d.IntN(12))
			a, _ := capmachine.New(c.image, x.gate, args, inputs)
			b, _ := fastvm.New(c.bare, x.gate, args, inputs)
			for range 400 {
				o, p := a.Step(), b.Step()
				if o != p || o.End == api.Faulted || erase.Snap(a.Snap()) != b.Snap() {
					t.Fatalf("T1, T2: %q from the gate %d with %v and %v: %+v and %+v", source, x.gate, args, inputs, o, p)
				}
				if o.End != api.Running {
					break
				}
				steps++
			}
		}
	}
	if steps < 5000 {
		t.Errorf("only %d steps were done", steps)
	}
}
