package lang_test

import (
	"slices"
	"testing"

	"paddock/api"
)

// verdict is what the plain reading says of a text: its error and its line.
func verdict(source string) (api.Errno, int) {
	l, line := cutUp(source)
	if line != 0 {
		return api.ErrLang, line
	}
	if at := stops(l); at >= 0 {
		line = lines(source)
		if at < len(l) {
			line = l[at].line
		}
		return api.ErrLang, line
	}
	e, at := firstWrong(l, treeOf(l))
	if e == api.OK {
		return e, 0
	}
	return e, l[at].line
}

func lines(source string) int {
	n := 1
	for _, c := range []byte(source) {
		if c == '\n' {
			n++
		}
	}
	return n
}

// TestCareless: programs in which now and then something is wrong, and rows of tokens that are none, are judged as the plain reading does.
func TestCareless(t *testing.T) {
	t.Parallel()
	count := map[api.Errno]int{}
	for seed := range uint64(2000) {
		d := rolled(seed)
		d.careless = true
		row := d.source()
		if seed%2 == 1 {
			row = d.spoiled(row)
		}
		source := d.laid(row)
		want, wantLine := verdict(source)
		count[want]++
		checkWrong(t, "15.1 to 15.3", source, want, wantLine)
		if want == api.OK {
			made(t, source)
		}
		if t.Failed() {
			t.FailNow()
		}
	}
	for _, e := range []api.Errno{api.OK, api.ErrLang, api.ErrKnown, api.ErrSort, api.ErrBound, api.ErrRoom} {
		if count[e] < 40 {
			t.Errorf("the dice are not wide enough: %d of %d, %v", count[e], e, count)
		}
	}
}

// entry is a gate that can be one, and how many arguments it has.
type entry struct {
	gate, args int
}

func entries(tree *node) []entry {
	var l []entry
	for gate, f := range functions(tree) {
		params := f.all("param")
		if !slices.ContainsFunc(params, func(p *node) bool { return p.of("use") != nil }) {
			l = append(l, entry{gate, len(params)})
		}
	}
	return l
}

// TestRuns: programs that are right do, on both machines, what the plain reading says.
func TestRuns(t *testing.T) {
	t.Parallel()
	ends := map[api.End]int{}
	put, touched, wrong := 0, 0, 0
	for seed := range uint64(700) {
		d := rolled(seed)
		source := d.laid(d.source())
		if e, _ := verdict(source); e != api.OK {
			wrong++
			continue
		}
		tree, c := parsed(t, source), made(t, source)
		for _, x := range entries(tree) {
			b := begun{x.gate, d.numbers(x.args), d.numbers(d.IntN(20))}
			s := told(tree, b.gate, b.args, b.inputs, 6000)
			ends[s.end]++
			put += len(s.out)
			touched += len(s.touches)
			if s.end == api.Running {
				c.begins(t, b, 500, s)
				continue
			}
			c.ends(t, b, s)
			c.begins(t, b, d.IntN(4*s.units+1), s)
		}
	}
	for _, e := range []api.End{api.Halted, api.Guarded, api.Trapped, api.Overflow, api.Starved, api.Running} {
		if ends[e] < 30 {
			t.Errorf("the dice are not wide enough: %v", ends)
		}
	}
	if wrong > 100 || put < 1000 || touched < 10000 {
		t.Errorf("the dice are not wide enough: %d wrong, %d put out, %d touched", wrong, put, touched)
	}
}
