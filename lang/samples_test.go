package lang_test

import (
	"reflect"
	"slices"
	"strings"
	"testing"

	"paddock/api"
	"paddock/capmachine"
	"paddock/checker"
	"paddock/erase"
	"paddock/fastvm"
	"paddock/image"
	"paddock/lang"
)

// compiled is a source that is right, with what is made of it: an image, and of that a program of bare addresses.
type compiled struct {
	source string
	image  api.Image
	bare   api.Program
}

// made compiles a source that is right; its image is right, and taken.
func made(t testing.TB, source string) compiled {
	t.Helper()
	m, e, line := lang.Compile(source)
	if e != api.OK || line != 0 {
		t.Fatalf("Compile of %q: %d, line %d", source, e, line)
	}
	if e := image.Right(m); e != api.OK {
		t.Fatalf("15.7: the image of %q is not right: %d", source, e)
	}
	r := checker.Check(m)
	if r.Reason != api.Fine {
		t.Fatalf("15.7: the image of %q is refused: %d, gate %d, instruction %d", source, r.Reason, r.Gate, r.Pc)
	}
	p, ok := erase.Program(m, r)
	if !ok {
		t.Fatalf("15.7: of %q there is no program of bare addresses", source)
	}
	return compiled{source, m, p}
}

// checkWrong asks for an error, and its line; there is no image then.
func checkWrong(t testing.TB, what string, source string, want api.Errno, wantLine int) {
	t.Helper()
	m, e, line := lang.Compile(source)
	if e != want || line != wantLine {
		t.Errorf("%s: of %q: %d, line %d, want %d, line %d", what, short(source), e, line, want, wantLine)
	}
	if e != api.OK && !reflect.DeepEqual(m, api.Image{}) {
		t.Errorf("%s: of %q there is an image beside the error", what, short(source))
	}
	if e == api.OK && len(m.Gates) == 0 {
		t.Errorf("%s: of %q there is no image", what, short(source))
	}
}

func short(s string) string {
	if len(s) > 400 {
		return s[:200] + " .. " + s[len(s)-200:]
	}
	return s
}

// machine is either of the two.
type machine interface {
	Run(fuel int) api.Outcome
	Out() []uint64
	Touches() []api.Touch
}

// begun are the arguments of a run.
type begun struct {
	gate   int
	args   []uint64
	inputs []uint64
}

// machines are both, which begin alike.
func (c compiled) machines(t testing.TB, b begun) []machine {
	t.Helper()
	first, e := capmachine.New(c.image, b.gate, b.args, b.inputs)
	if e != api.OK {
		t.Fatalf("15.4: the first machine of %q, %+v: %d", c.source, b, e)
	}
	second, e := fastvm.New(c.bare, b.gate, b.args, b.inputs)
	if e != api.OK {
		t.Fatalf("15.4: the second machine of %q, %+v: %d", c.source, b, e)
	}
	return []machine{first, second}
}

// ends asks both machines for a run that does all of a story, with just the fuel that its units of work are worth.
func (c compiled) ends(t testing.TB, b begun, want story) {
	t.Helper()
	fuel := 10*want.units + 10
	for k, x := range c.machines(t, b) {
		if o := x.Run(fuel); !does(o, x, want) {
			t.Fatalf("15.5, 15.6, 15.8: machine %d, %q, %+v: %+v, put out %v, touched %v, want %+v, within %d steps", k+1, c.source, b, o, x.Out(), x.Touches(), want, fuel)
		}
	}
}

// does tells whether a run that is over did all of a story.
func does(o api.Outcome, x machine, want story) bool {
	return o.End == want.end && o.Value == want.value && o.Fault == api.NoFault && slices.Equal(x.Out(), want.out) && slices.Equal(x.Touches(), want.touches)
}

// begins asks both machines for a run with some fuel: if that ends first, what was put out and touched is the beginning of the story's.
func (c compiled) begins(t testing.TB, b begun, fuel int, want story) {
	t.Helper()
	for k, x := range c.machines(t, b) {
		o := x.Run(fuel)
		if o.End == api.Spent && begin(x.Out(), want.out) && begin(x.Touches(), want.touches) || does(o, x, want) {
			continue
		}
		t.Fatalf("15.8: machine %d, %q, %+v, with the fuel %d: %+v, put out %v, touched %v, want the beginning of %+v", k+1, c.source, b, fuel, o, x.Out(), x.Touches(), want)
	}
}

func begin[T comparable](l []T, of []T) bool {
	return len(l) <= len(of) && slices.Equal(l, of[:len(l)])
}

// parsed is the tree of a source that is right.
func parsed(t testing.TB, source string) *node {
	t.Helper()
	l, line := cutUp(source)
	if line != 0 || stops(l) >= 0 {
		t.Fatalf("%q is no program", source)
	}
	return treeOf(l)
}

// ran is a run on both machines, which the plain reading tells, too.
func ran(t testing.TB, source string, gate int, args []uint64, inputs ...uint64) story {
	t.Helper()
	s := told(parsed(t, source), gate, args, inputs, 1<<16)
	made(t, source).ends(t, begun{gate, args, inputs}, s)
	return s
}

// in is a source with a function's body: there are the regions a (of 4 bytes, to be used), b (of 2 words, to be read) and d (of 3 words, not in the head), the integer x, and p and q for a and b. It begins in line 4.
func in(body string) string {
	return "bytes a 4 words b 2 words d 3\ncomp c uses a reads b {\nfn f(x, p: uses a, q: reads b) {\n" + body + "\n}\nfn g(y) { }\nfn h() { }\n}"
}

func times(s string, n int) string { return strings.Repeat(s, n) }
