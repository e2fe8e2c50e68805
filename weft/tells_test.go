package weft_test

import (
	"testing"

	"paddock/api"
	"paddock/weft"
)

// TestIdle: nobody can go on, if each is over or would wait.
func TestIdle(t *testing.T) {
	for _, c := range []struct {
		what  string
		net   api.Net
		steps script
		want  bool
	}{
		{"the empty net", api.Net{}, nil, true},
		{"no processes", netOf(t, [][]uint64{{1}}, []string{addCode}), nil, true},
		{"one that can go on", solo(t, oneCode), nil, false},
		{"one in between", solo(t, oneCode), script{{0, 1, 1}}, false},
		{"one whose next step is its end", solo(t, oneCode), script{{0, 2, 2}}, false},
		{"one that is over", solo(t, oneCode), script{{0, 3, 3}}, true},
		{"one that takes of what is there", solo(t, addCode, 5), nil, false},
		{"one that will be Starved", solo(t, addCode), nil, false},
		{"one without In that will be Starved", netOf(t, nil, []string{addCode}, from(0, -1, -1)), nil, false},
		{"one that was Starved", solo(t, addCode), script{{0, 1, 1}}, true},
		{"one that waits for itself", netOf(t, [][]uint64{nil}, []string{addCode}, from(0, 0, 0)), nil, true},
		{"one that waits for itself later", netOf(t, [][]uint64{nil}, []string{"li r1 1;" + "in r1;halt r1"}, from(0, 0, 0)), nil, false},
		{"one that waits for itself by now", netOf(t, [][]uint64{nil}, []string{"li r1 1;" + "in r1;halt r1"}, from(0, 0, 0)), script{{0, 9, 1}}, true},
		{"one that feeds itself", netOf(t, [][]uint64{{1}}, []string{addCode}, from(0, 0, 0)), script{{0, 8, 8}}, false},
		{"a ring of three", netOf(t, [][]uint64{nil, nil, nil}, []string{addCode}, from(0, 0, 1), from(0, 1, 2), from(0, 2, 0)), nil, true},
		{"a ring of three, a number in it", netOf(t, [][]uint64{nil, nil, {1}}, []string{addCode}, from(0, 0, 1), from(0, 1, 2), from(0, 2, 0)), nil, false},
		{"one waits, the other can go on", netOf(t, [][]uint64{nil, nil}, []string{addCode, oneCode}, from(0, 0, 1), from(1, -1, 0)), script{{0, 9, 0}}, false},
		{"one is over, the other will be Starved", netOf(t, [][]uint64{nil, nil}, []string{addCode, oneCode}, from(0, 0, 1), from(1, -1, 0)), script{{1, 9, 3}, {0, 9, 5}}, true},
		{"one is over, the other can take", netOf(t, [][]uint64{nil, nil}, []string{addCode, oneCode}, from(0, 0, 1), from(1, -1, 0)), script{{1, 9, 3}}, false},
		{"one is over, the other one's last step is left", netOf(t, [][]uint64{nil, nil}, []string{addCode, oneCode}, from(0, 0, 1), from(1, -1, 0)), script{{1, 9, 3}, {0, 4, 4}}, false},
		{"one is over, two wait for each other", netOf(t, [][]uint64{nil, nil}, []string{addCode, oneCode}, from(0, 0, 1), from(1, -1, -1), from(0, 1, 0)), script{{1, 9, 3}}, true},
		{"the last one alone can go on", netOf(t, [][]uint64{nil, nil}, []string{addCode, oneCode}, from(0, 0, 1), from(0, 1, 0), from(1, -1, -1)), nil, false},
	} {
		w := begun(t, c.net)
		c.steps.check(t, c.what, w)
		before := w.Flow()
		checkIdle(t, c.what, w, c.want)
		checkIdle(t, c.what+", asked again", w, c.want)
		checkFlow(t, "20.4: "+c.what+": Idle has changed it", w.Flow(), before)
		if done := w.Do(0, 1) + w.Do(1, 1) + w.Do(2, 1); (done == 0) != c.want {
			t.Errorf("20.4: %s: Idle is %v, but %d steps were done then", c.what, c.want, done)
		}
	}
}

// TestFlow: at the beginning, in between and at the end; channels of which nothing, a part and all was taken.
func TestFlow(t *testing.T) {
	n := netOf(t, [][]uint64{{1, 2, 3}, {50}, nil, {9}}, []string{addCode, "in r1;out r1;in r1;in r2;add r1 r1 r2;out r1;halt r1"}, from(0, 0, 1), from(1, 1, 2))
	w := begun(t, n)
	for _, c := range []struct {
		what  string
		steps script
		want  api.Flow
	}{
		{"at the beginning", nil, flowOf([]api.Outcome{at(0), at(0)}, [][]uint64{{1, 2, 3}, {50}, nil, {9}}, 0, 0, 0, 0)},
		{"nothing taken, something put", script{{0, 3, 3}}, flowOf([]api.Outcome{at(3), at(0)}, [][]uint64{{1, 2, 3}, {50, 11}, nil, {9}}, 1, 0, 0, 0)},
		{"a part taken", script{{1, 1, 1}}, flowOf([]api.Outcome{at(3), at(1)}, [][]uint64{{1, 2, 3}, {50, 11}, nil, {9}}, 1, 1, 0, 0)},
		{"all taken", script{{1, 9, 2}}, flowOf([]api.Outcome{at(3), at(3)}, [][]uint64{{1, 2, 3}, {50, 11}, {50}, {9}}, 1, 2, 0, 0)},
		{"more was put", script{{0, 8, 8}}, flowOf([]api.Outcome{at(3), at(3)}, [][]uint64{{1, 2, 3}, {50, 11, 12, 13}, {50}, {9}}, 3, 2, 0, 0)},
		{"one is over", script{{1, 9, 4}}, flowOf([]api.Outcome{at(3), halted(23, 6)}, [][]uint64{{1, 2, 3}, {50, 11, 12, 13}, {50, 23}, {9}}, 3, 3, 0, 0)},
		{"at the end", script{{0, 9, 2}}, flowOf([]api.Outcome{starved(0), halted(23, 6)}, [][]uint64{{1, 2, 3}, {50, 11, 12, 13}, {50, 23}, {9}}, 3, 3, 0, 0)},
		{"behind it", script{{0, 9, 0}, {1, 9, 0}}, flowOf([]api.Outcome{starved(0), halted(23, 6)}, [][]uint64{{1, 2, 3}, {50, 11, 12, 13}, {50, 23}, {9}}, 3, 3, 0, 0)},
	} {
		c.steps.check(t, c.what, w)
		checkFlow(t, "20.4: "+c.what, w.Flow(), c.want)
		checkFlow(t, "20.4: "+c.what+", asked again", w.Flow(), c.want)
	}
	checkFlow(t, "20.5: a part taken", ran(t, n, 100), w.Flow())
}

// TestAtHand: of one that is not over the gate and the instruction are told, in a called gate, too, and behind it; all else is 0.
func TestAtHand(t *testing.T) {
	const text = "depth 2;comp;li r1 5;call b;halt r1;comp;trap 1;addi r1 r1 1;call c;ret;comp;in r2;add r1 r1 r2;ret;gate a 0 0 ->;gate b 1 1 int -> int;gate c 2 0 int -> int"
	n := api.Net{Programs: []api.Image{parse(t, text)}, Procs: []api.Proc{from(0, 0, -1)}, Queues: [][]uint64{{30}}}
	w := begun(t, n)
	for k, want := range []api.Outcome{{Pc: 1}, {Gate: 1, Pc: 1}, {Gate: 1, Pc: 2}, {Gate: 2}, {Gate: 2, Pc: 1}, {Gate: 2, Pc: 2}, {Gate: 1, Pc: 3}, {Pc: 2}, halted(36, 2)} {
		script{{0, 1, 1}}.check(t, "in calls", w)
		if got := w.Flow().Outcomes[0]; got != want {
			t.Errorf("20.4: in calls, behind %d steps: %+v, want %+v", k+1, got, want)
		}
	}
	// In the called gate it waits for itself.
	n.Procs[0].Out, n.Queues[0] = 0, nil
	w = begun(t, n)
	script{{0, 99, 4}, {0, 99, 0}}.check(t, "waiting in calls", w)
	want := flowOf([]api.Outcome{{Gate: 2}}, [][]uint64{nil}, 0)
	checkFlow(t, "20.4: waiting in calls", w.Flow(), want)
	checkIdle(t, "waiting in calls", w, true)
	checkFlow(t, "20.5: waiting in calls", ran(t, n, 99), want)
	checkFlow(t, "20.5: waiting in calls, Spent there", ran(t, n, 4), flowOf([]api.Outcome{{End: api.Spent, Gate: 2}}, [][]uint64{nil}, 0))
}

// TestNil: of a nil net.
func TestNil(t *testing.T) {
	var w *weft.Weft
	for _, proc := range []int{-1, 0, 1} {
		for _, steps := range []int{-1, 0, 1, 100} {
			script{{proc, steps, 0}}.check(t, "a nil net", w)
		}
	}
	checkIdle(t, "a nil net", w, false)
	if f := w.Flow(); !isEmpty(f) {
		t.Errorf("20.4: a nil net: %+v, want the empty Flow", f)
	}
}
