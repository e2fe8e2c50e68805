package weft_test

import (
	"slices"
	"testing"

	"paddock/api"
	"paddock/weft"
)

// TestFuel: each process does at most so many steps; who has done so many and is not over is Spent where it stands.
func TestFuel(t *testing.T) {
	// It ends by its fourth step.
	const code = "out r0;addi r1 r1 1;out r1;halt r1"
	n := netOf(t, [][]uint64{nil}, []string{code}, from(0, -1, 0))
	for _, c := range []struct {
		fuel int
		want api.Outcome
		put  []uint64
	}{
		{-1 << 63, spent(0), nil}, {-1, spent(0), nil}, {0, spent(0), nil}, {1, spent(1), []uint64{0}}, {2, spent(2), []uint64{0}}, {3, spent(3), []uint64{0, 1}},
		{4, halted(1, 3), []uint64{0, 1}}, {5, halted(1, 3), []uint64{0, 1}}, {api.MaxFuel, halted(1, 3), []uint64{0, 1}}, {1<<63 - 1, halted(1, 3), []uint64{0, 1}},
	} {
		if f := ran(t, n, c.fuel); !same(f, flowOf([]api.Outcome{c.want}, [][]uint64{c.put}, 0)) {
			t.Errorf("20.5: fuel %d: %+v, want %+v, %d put", c.fuel, f, c.want, c.put)
		}
	}
}

// TestMostFuel: more than MaxFuel is MaxFuel, for each process by itself.
func TestMostFuel(t *testing.T) {
	n := netOf(t, nil, []string{"addi r1 r1 1;jmp 0", "jmp 1;jmp 2;jmp 0", oneCode}, from(0, -1, -1), from(1, -1, -1), from(2, -1, -1))
	for _, fuel := range []int{api.MaxFuel - 1, api.MaxFuel, api.MaxFuel + 1, 2 * api.MaxFuel, 1<<63 - 1} {
		done := min(fuel, api.MaxFuel)
		want := flowOf([]api.Outcome{spent(done % 2), spent(done % 3), halted(1, 2)}, nil)
		if f := ran(t, n, fuel); !same(f, want) {
			t.Errorf("20.5: fuel %d: %+v, want %+v", fuel, f, want)
		}
	}
}

// TestEachItsFuel: how much one does takes nothing of what another may do.
func TestEachItsFuel(t *testing.T) {
	n := api.Net{Programs: []api.Image{alone(t, "jmp 0"), alone(t, oneCode)}}
	for k := range api.MaxProcs {
		n.Procs, n.Queues = append(n.Procs, from(k%2, -1, k)), append(n.Queues, nil)
	}
	f := ran(t, n, 3)
	for k, o := range f.Outcomes {
		if want := []api.Outcome{spent(0), halted(1, 2)}[k%2]; o != want {
			t.Errorf("20.5: the process %d: %+v, want %+v", k, o, want)
		}
	}
}

// TestSpent: with each fuel, where one is Spent that would wait, or is waited for.
func TestSpent(t *testing.T) {
	t.Run("it would wait there", func(t *testing.T) {
		// With two steps done it waits; were it not Spent by them, it would wait for ever.
		n := netOf(t, [][]uint64{nil}, []string{"li r1 1;li r2 2;in r3;halt r3"}, from(0, 0, 0))
		for fuel, want := range []api.Outcome{spent(0), spent(1), spent(2), at(2), at(2)} {
			checkFlow(t, "20.5: it waits for itself", ran(t, n, fuel), flowOf([]api.Outcome{want}, [][]uint64{nil}, 0))
		}
	})
	t.Run("without fuel all are", func(t *testing.T) {
		n := netOf(t, [][]uint64{nil, nil, {4}}, []string{addCode}, from(0, 0, 1), from(0, 1, 0), from(0, 2, -1), from(0, -1, 2))
		for _, fuel := range []int{-7, 0} {
			checkFlow(t, "20.5: a ring without fuel", ran(t, n, fuel), flowOf([]api.Outcome{spent(0), spent(0), spent(0), spent(0)}, n.Queues, 0, 0, 0))
		}
		// With one step nobody of the ring does one.
		checkFlow(t, "20.5: a ring with one step", ran(t, n, 1), flowOf([]api.Outcome{at(0), at(0), spent(1), starved(0)}, n.Queues, 0, 0, 1))
	})
	t.Run("the writer is, and the other one waits for it", func(t *testing.T) {
		n := netOf(t, [][]uint64{nil, nil}, []string{"li r1 1;li r2 2;li r3 3;out r1;jmp 0", "in r1;out r1;halt r1"}, from(0, -1, 0), from(1, 0, 1))
		for fuel, c := range []struct {
			outcomes []api.Outcome
			put      []uint64
			taken    int
		}{
			{[]api.Outcome{spent(0), spent(0)}, nil, 0},
			{[]api.Outcome{spent(1), starved(0)}, nil, 0},
			{[]api.Outcome{spent(2), starved(0)}, nil, 0},
			{[]api.Outcome{spent(3), starved(0)}, nil, 0},
			{[]api.Outcome{spent(4), halted(1, 2)}, []uint64{1}, 1},
			{[]api.Outcome{spent(0), halted(1, 2)}, []uint64{1}, 1},
		} {
			second := []uint64(nil)
			if c.taken > 0 {
				second = []uint64{1}
			}
			checkFlow(t, "20.5: the writer is Spent", ran(t, n, fuel), flowOf(c.outcomes, [][]uint64{c.put, second}, c.taken, 0))
		}
	})
	t.Run("one behind the other", func(t *testing.T) {
		// The first one never puts anything; of those behind it each is Starved by its first step, as the one ahead is over.
		n := netOf(t, [][]uint64{nil, nil, nil, nil}, []string{"jmp 0", addCode}, from(1, 2, 3), from(1, 1, 2), from(1, 0, 1), from(0, -1, 0))
		checkFlow(t, "20.5: a row behind one that is Spent", ran(t, n, 50), flowOf([]api.Outcome{starved(0), starved(0), starved(0), spent(0)}, n.Queues, 0, 0, 0, 0))
	})
	t.Run("by its last step", func(t *testing.T) {
		for fuel, want := range map[int]api.Outcome{8: spent(0), 9: starved(0)} {
			f := ran(t, pipe(t), fuel)
			checkFlow(t, "20.5: a pipe", f, flowOf([]api.Outcome{want, want}, [][]uint64{{1, 2}, {11, 12}, {21, 22}}, 2, 2, 0))
		}
	})
}

// TestRunOfErrors: Right's error, and the empty Flow, whatever fuel there is.
func TestRunOfErrors(t *testing.T) {
	for _, l := range errors(t) {
		for _, x := range l.turns[:2] {
			n, what := turned(t, x)
			for _, fuel := range []int{-1, 0, 1, 1 << 62} {
				if f, e := weft.Run(n, fuel); e != l.want || !isEmpty(f) {
					t.Errorf("20.5: %s, fuel %d: %+v, %d, want %d", what, fuel, f, e, l.want)
				}
			}
		}
	}
	if f := ran(t, api.Net{}, 5); !same(f, api.Flow{}) {
		t.Errorf("20.5: the empty net: %+v", f)
	}
	checkFlow(t, "20.5: no processes", ran(t, api.Net{Queues: [][]uint64{{1, 2}, nil}}, 5), flowOf(nil, [][]uint64{{1, 2}, nil}, 0, 0))
}

// ring is a net in which a number goes round, from each of the processes to the next one.
func ring(t testing.TB) api.Net {
	t.Helper()
	n := api.Net{Programs: []api.Image{alone(t, addCode)}}
	for k := range api.MaxProcs {
		n.Procs, n.Queues = append(n.Procs, from(0, k, (k+1)%api.MaxProcs)), append(n.Queues, nil)
	}
	n.Queues[3] = []uint64{7}
	return n
}

// TestRing: each does a round by each number that comes; nobody can go on where one is Spent, but those for whom something is there.
func TestRing(t *testing.T) {
	const rounds = 50
	f := ran(t, ring(t), 4*rounds)
	for k, numbers := range f.Queues {
		// The number is 10 more behind each process, which are eight.
		var want []uint64
		for r := range uint64(rounds) {
			want = append(want, 7+80*r+10*uint64((k-3+api.MaxProcs)%api.MaxProcs))
		}
		if k == 3 {
			want = append(want, 7+80*rounds)
		}
		if !slices.Equal(numbers, want) || f.Taken[k] != rounds || f.Outcomes[k] != spent(0) {
			t.Errorf("20.5: a ring, the channel %d: %d numbers, %d taken, %+v", k, len(numbers), f.Taken[k], f.Outcomes[k])
		}
	}
}
