package weft_test

import (
	"testing"

	"paddock/api"
)

// TestNothingIsDone: where there is no such process, or nothing to do.
func TestNothingIsDone(t *testing.T) {
	w := begun(t, pipe(t))
	first := w.Flow()
	for _, proc := range []int{-1, 2, 3, 8, -1 << 63, 1<<63 - 1} {
		for _, steps := range []int{-1, 0, 1, 5, api.MaxFuel + 1} {
			script{{proc, steps, 0}}.check(t, "no such process", w)
		}
	}
	for _, steps := range []int{0, -1, -5, -1 << 63} {
		script{{0, steps, 0}, {1, steps, 0}}.check(t, "no steps", w)
	}
	checkFlow(t, "20.3: nothing was to be done", w.Flow(), first)
	script{{0, 1, 1}, {0, 0, 0}, {0, -1, 0}, {2, 1, 0}, {0, 2, 2}}.check(t, "nothing in between", w)
	checkFlow(t, "20.3: nothing was to be done in between", w.Flow(), flowOf([]api.Outcome{at(3), at(0)}, [][]uint64{{1, 2}, {11}, nil}, 1, 0, 0))
	script{{0, 5, 0}, {-1, 5, 0}, {-1, 0, 0}}.check(t, "the empty net", begun(t, api.Net{}))
}

// TestSoManySteps: just as many as are asked for, one by one or more at once.
func TestSoManySteps(t *testing.T) {
	w := begun(t, solo(t, addCode, 1, 2, 3))
	for k, want := range []api.Outcome{at(1), at(2), at(3), at(0), at(1)} {
		script{{0, 1, 1}}.check(t, "one by one", w)
		if got := w.Flow().Outcomes[0]; got != want {
			t.Errorf("20.3: behind %d steps: %+v, want %+v", k+1, got, want)
		}
	}
	script{{0, 2, 2}, {0, 3, 3}, {0, 100, 3}, {0, 100, 0}, {0, 1, 0}}.check(t, "some at once", w)
	checkFlow(t, "20.3: so many steps", w.Flow(), flowOf([]api.Outcome{starved(0)}, [][]uint64{{1, 2, 3}, {11, 12, 13}}, 3, 0))
}

// TestMostSteps: more than MaxFuel count as MaxFuel, in each Do anew.
func TestMostSteps(t *testing.T) {
	for _, steps := range []int{api.MaxFuel - 1, api.MaxFuel, api.MaxFuel + 1, 1<<63 - 1} {
		w := begun(t, solo(t, "addi r1 r1 1;jmp 0"))
		want := min(steps, api.MaxFuel)
		script{{0, steps, want}, {0, 3, 3}, {0, steps, want}}.check(t, "a round without end", w)
		checkFlow(t, "20.3: a round without end", w.Flow(), flowOf([]api.Outcome{at((2*want + 3) % 2)}, [][]uint64{nil, nil}, 0, 0))
		checkIdle(t, "a round without end", w, false)
	}
}

// endings are programs that end, each by another of chapter 13's outcomes: in how many steps, and how.
func endings(t testing.TB) []struct {
	what  string
	net   api.Net
	steps int
	want  api.Outcome
} {
	t.Helper()
	net := func(text string) api.Net {
		return api.Net{Programs: []api.Image{parse(t, text)}, Procs: []api.Proc{from(0, 0, 1)}, Queues: [][]uint64{{7}, nil}}
	}
	const deep = "depth 2;comp;call b;halt r0;comp;call b;ret;gate a 0 0 ->;gate b 1 0 ->"
	return []struct {
		what  string
		net   api.Net
		steps int
		want  api.Outcome
	}{
		{"HALT", solo(t, "li r3 -1;halt r3"), 2, halted(top, 1)},
		{"HALT at once", solo(t, "halt r1"), 1, halted(0, 0)},
		{"RET without a result", solo(t, "li r1 5;ret"), 2, halted(0, 1)},
		{"RET with a result", net("depth 1;comp;in r1;ret;gate a 0 0 -> int"), 2, halted(7, 1)},
		{"a guard that fails for sure", solo(t, "li r1 5;glt r1 5 200;halt r1"), 2, ended(api.Guarded, 200, 1)},
		{"a guard that fails by an input", net("depth 1;comp;in r1;gge r1 8 9;halt r1;gate a 0 0 ->"), 2, ended(api.Guarded, 9, 1)},
		{"TRAP", solo(t, "li r1 1;li r2 2;trap 255"), 3, ended(api.Trapped, 255, 2)},
		{"too many calls", net(deep), 3, api.Outcome{End: api.Overflow, Gate: 1, Pc: 0}},
		{"no input", solo(t, "li r1 1;in r1;halt r1"), 2, starved(1)},
		{"no input any more", solo(t, "in r1;in r1;halt r1", 5), 2, starved(1)},
		{"no input in a call", net("depth 1;comp;in r1;call b;halt r0;comp;in r1;ret;gate a 0 0 ->;gate b 1 0 ->"), 3, api.Outcome{End: api.Starved, Gate: 1, Pc: 0}},
	}
}

// TestEndings: the instruction that ends a run is a step, too; behind it nothing is done any more.
func TestEndings(t *testing.T) {
	for _, c := range endings(t) {
		w := begun(t, c.net)
		script{{0, c.steps - 1, c.steps - 1}}.check(t, c.what+", ahead of it", w)
		if o := w.Flow().Outcomes[0]; o.End != api.Running || o.Gate != c.want.Gate || o.Pc != c.want.Pc {
			t.Errorf("20.4: %s, ahead of it: %+v", c.what, o)
		}
		checkIdle(t, c.what+", ahead of it", w, false)
		script{{0, 1, 1}}.check(t, c.what, w)
		end := w.Flow()
		script{{0, 1, 0}, {0, 50, 0}, {0, 0, 0}}.check(t, c.what+", behind it", w)
		checkFlow(t, "20.3: "+c.what+", behind it", w.Flow(), end)
		checkIdle(t, c.what+", behind it", w, true)
		if end.Outcomes[0] != c.want {
			t.Errorf("20.3: %s: %+v, want %+v", c.what, end.Outcomes[0], c.want)
		}
		w = begun(t, c.net)
		script{{0, 1000, c.steps}}.check(t, c.what+", at once", w)
		checkFlow(t, "20.3: "+c.what+", at once", w.Flow(), end)
		checkFlow(t, "20.5: "+c.what, ran(t, c.net, 1000), end)
	}
}

// TestTakes: FIN takes the first number that is not taken yet, whoever put it there, and when.
func TestTakes(t *testing.T) {
	for _, c := range []struct {
		what  string
		net   api.Net
		steps script
		want  api.Flow
	}{
		{"In is -1", netOf(t, [][]uint64{{5}}, []string{addCode}, from(0, -1, -1)), script{{0, 9, 1}},
			flowOf([]api.Outcome{starved(0)}, [][]uint64{{5}}, 0)},
		{"a channel without a writer, empty", netOf(t, [][]uint64{nil}, []string{addCode}, from(0, 0, -1)), script{{0, 9, 1}},
			flowOf([]api.Outcome{starved(0)}, [][]uint64{nil}, 0)},
		{"a channel without a writer, not empty", netOf(t, [][]uint64{{5, 6}}, []string{addCode}, from(0, 0, -1)), script{{0, 1, 1}, {0, 20, 8}},
			flowOf([]api.Outcome{starved(0)}, [][]uint64{{5, 6}}, 2)},
		{"the writer waits, something is there", netOf(t, [][]uint64{{5}, nil}, []string{addCode}, from(0, 0, 1), from(0, 1, 0)), script{{1, 9, 0}, {0, 9, 4}, {0, 9, 0}, {1, 2, 2}, {0, 9, 0}, {1, 1, 1}, {0, 2, 2}},
			flowOf([]api.Outcome{at(2), at(3)}, [][]uint64{{5, 25}, {15}}, 2, 1)},
		{"the writer can go on, nothing is there", netOf(t, [][]uint64{nil, nil}, []string{addCode, oneCode}, from(0, 0, 1), from(1, -1, 0)), script{{0, 9, 0}, {1, 1, 1}, {0, 9, 0}, {1, 1, 1}, {0, 9, 4}, {0, 9, 0}, {1, 1, 1}, {0, 9, 1}},
			flowOf([]api.Outcome{starved(0), halted(1, 2)}, [][]uint64{{1}, {11}}, 1, 0)},
		{"the writer is over, something is left", netOf(t, [][]uint64{{8}, nil}, []string{addCode, oneCode}, from(0, 0, 1), from(1, -1, 0)), script{{1, 9, 3}, {0, 9, 9}},
			flowOf([]api.Outcome{starved(0), halted(1, 2)}, [][]uint64{{8, 1}, {18, 11}}, 2, 0)},
		{"the writer is over, and put nothing", netOf(t, [][]uint64{nil, nil}, []string{addCode, "trap 3"}, from(0, 0, 1), from(1, -1, 0)), script{{0, 9, 0}, {1, 1, 1}, {0, 9, 1}},
			flowOf([]api.Outcome{starved(0), ended(api.Trapped, 3, 0)}, [][]uint64{nil, nil}, 0, 0)},
		{"it feeds itself", netOf(t, [][]uint64{{5}}, []string{addCode}, from(0, 0, 0)), script{{0, 3, 3}, {0, 4, 4}, {0, 1, 1}, {0, 1, 1}},
			flowOf([]api.Outcome{at(1)}, [][]uint64{{5, 15, 25}}, 3)},
		{"it puts for itself, and waits then", netOf(t, [][]uint64{nil}, []string{"out r0;in r1;in r1;halt r1"}, from(0, 0, 0)), script{{0, 9, 2}, {0, 9, 0}},
			flowOf([]api.Outcome{at(2)}, [][]uint64{{0}}, 1)},
	} {
		w := begun(t, c.net)
		c.steps.check(t, c.what, w)
		checkFlow(t, "20.3: "+c.what, w.Flow(), c.want)
	}
}

// TestWaiting: nothing is done, however often it is asked, and it is no step; it goes on when something comes, or when nothing can come any more.
func TestWaiting(t *testing.T) {
	const twice = "in r1;out r1;out r1;jmp 0"
	n := netOf(t, [][]uint64{{3}, nil, nil, nil}, []string{addCode, twice, "li r2 9;in r2;out r2;halt r2"}, from(0, 0, 1), from(1, 1, 2), from(2, 2, 3))
	w := begun(t, n)
	script{{2, 9, 1}, {2, 9, 0}, {1, 9, 0}, {2, 9, 0}, {1, 1, 0}}.check(t, "two wait, one of them for the other", w)
	checkFlow(t, "20.3: two wait", w.Flow(), flowOf([]api.Outcome{at(0), at(0), at(1)}, [][]uint64{{3}, nil, nil, nil}, 0, 0, 0, 0))
	checkIdle(t, "two wait, the third can go on", w, false)
	script{{0, 100, 5}, {2, 9, 0}, {1, 2, 2}, {2, 1, 1}, {2, 9, 2}, {2, 9, 0}, {1, 100, 3}}.check(t, "behind it", w)
	checkFlow(t, "20.3: all are over", w.Flow(), flowOf([]api.Outcome{starved(0), starved(0), halted(13, 3)}, [][]uint64{{3}, {13}, {13, 13}, {13}}, 1, 1, 1, 0))

	// The one in the middle puts nothing, and is over by Starved when the first one is.
	n = netOf(t, [][]uint64{nil, nil, nil}, []string{"li r1 4;halt r1", addCode}, from(0, -1, 0), from(1, 0, 1), from(1, 1, 2))
	w = begun(t, n)
	script{{2, 9, 0}, {1, 9, 0}, {0, 1, 1}, {1, 9, 0}, {0, 1, 1}, {2, 9, 0}, {1, 9, 1}, {2, 9, 1}}.check(t, "a row of those who wait", w)
	checkFlow(t, "20.3: a row of those who wait", w.Flow(), flowOf([]api.Outcome{halted(4, 1), starved(0), starved(0)}, [][]uint64{nil, nil, nil}, 0, 0, 0))
}

// TestWritersEnds: who waits is Starved behind each end of the writer, and only behind it.
func TestWritersEnds(t *testing.T) {
	for _, c := range endings(t) {
		n := c.net
		n.Programs = append(n.Programs, alone(t, addCode))
		n.Procs = append(n.Procs, from(1, 1, -1))
		w := begun(t, n)
		script{{0, c.steps - 1, c.steps - 1}, {1, 9, 0}, {0, 1, 1}, {1, 9, 1}}.check(t, c.what+" of the writer", w)
		want := []api.Outcome{c.want, starved(0)}
		checkFlow(t, "20.3: "+c.what+" of the writer", w.Flow(), flowOf(want, w.Flow().Queues, w.Flow().Taken...))
		checkFlow(t, "20.5: "+c.what+" of the writer", ran(t, n, 100), w.Flow())
	}
}

// TestPuts: FOUT puts behind all numbers of the Out channel; without one it goes nowhere.
func TestPuts(t *testing.T) {
	const code = "li r5 -1;out r5;li r5 3;out r5;out r0;ret"
	for _, c := range []struct {
		what   string
		out    int
		queues [][]uint64
		want   [][]uint64
	}{
		{"nowhere", -1, [][]uint64{{5}, nil}, [][]uint64{{5}, nil}},
		{"nowhere, where there is no channel", -1, nil, nil},
		{"into an empty one", 1, [][]uint64{{5}, nil}, [][]uint64{{5}, {top, 3, 0}}},
		{"behind what is there", 0, [][]uint64{{5, 6}, nil}, [][]uint64{{5, 6, top, 3, 0}, nil}},
	} {
		n := netOf(t, c.queues, []string{code}, from(0, -1, c.out))
		want := flowOf([]api.Outcome{halted(0, 5)}, c.want, make([]int, len(c.queues))...)
		w := begun(t, n)
		script{{0, 2, 2}, {0, 9, 4}}.check(t, c.what, w)
		checkFlow(t, "20.3: "+c.what, w.Flow(), want)
		checkFlow(t, "20.5: "+c.what, ran(t, n, 9), want)
	}
}
