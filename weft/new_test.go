package weft_test

import (
	"slices"
	"testing"

	"paddock/api"
	"paddock/weft"
)

// tellText has a gate that puts out its arguments, what its roots say, and a word of memory, and one that begins in the middle of the code.
const tellText = "depth 1;region 32 32 bytes #0703;comp;root r8 32 64 40 rw 0;out r1;out r2;out r3;caddr r4 r8;out r4;cbase r4 r8;out r4;lw r4 r8 -8;out r4;ret;" +
	"gate a 0 0 int int int ->;gate b 0 8 int -> int;gate c 0 9 ->"

// TestBeginning: each process stands at its gate's entry, over none, and of no channel anything is taken.
func TestBeginning(t *testing.T) {
	n := api.Net{
		Programs: []api.Image{alone(t, oneCode), parse(t, tellText)},
		Procs: []api.Proc{
			{Program: 1, Gate: 2, In: -1, Out: -1},
			{Program: 0, In: 0, Out: 2},
			{Program: 1, Gate: 1, Args: []uint64{5}, In: 2, Out: 0},
			{Program: 1, Gate: 0, Args: []uint64{5, 6, 7}, In: -1, Out: 1},
		},
		Queues: [][]uint64{{4, 5, 6}, nil, {top}},
	}
	want := flowOf([]api.Outcome{{Gate: 2, Pc: 9}, at(0), {Gate: 1, Pc: 8}, at(0)}, n.Queues, 0, 0, 0)
	w := begun(t, n)
	checkFlow(t, "20.2: the beginning", w.Flow(), want)
	checkIdle(t, "the beginning", w, false)
	checkFlow(t, "20.2: the beginning, asked again", w.Flow(), want)
	checkFlow(t, "20.2: the empty net", begun(t, api.Net{}).Flow(), api.Flow{})
	n.Procs = nil
	checkFlow(t, "20.2: no processes", begun(t, n).Flow(), flowOf(nil, n.Queues, 0, 0, 0))
}

// TestArguments: in the first registers, as many as the gate has; all others have what the roots say, and memory its bytes.
func TestArguments(t *testing.T) {
	n := api.Net{Programs: []api.Image{parse(t, tellText)}, Queues: [][]uint64{nil, nil, nil}}
	n.Procs = []api.Proc{{Args: []uint64{5, top, 7}, In: -1, Out: 0}, {Gate: 1, Args: []uint64{9}, In: -1, Out: 1}, {Gate: 2, In: -1, Out: 2}}
	want := flowOf([]api.Outcome{halted(0, 9), {End: api.Halted, Value: 9, Gate: 1, Pc: 9}, {End: api.Halted, Gate: 2, Pc: 9}},
		[][]uint64{{5, top, 7, 40, 32, 0x0307}, {0}, nil}, 0, 0, 0)
	w := begun(t, n)
	finish(t, w, 3)
	checkFlow(t, "20.2: what processes begin with", w.Flow(), want)
	checkFlow(t, "20.5: what processes begin with", ran(t, n, 100), want)
}

// TestWithoutInputs: what lies in channels that are not its In comes to no process.
func TestWithoutInputs(t *testing.T) {
	n := netOf(t, [][]uint64{{1}, {2}, {3}}, []string{addCode}, from(0, -1, 0), from(0, 1, -1))
	want := flowOf([]api.Outcome{starved(0), starved(0)}, n.Queues, 0, 1, 0)
	w := begun(t, n)
	script{{0, 5, 1}, {1, 5, 5}}.check(t, "no inputs", w)
	checkFlow(t, "20.2: no inputs", w.Flow(), want)
	checkFlow(t, "20.5: no inputs", ran(t, n, 100), want)
}

// TestOwnMemory: processes of one program share nothing, nor do nets of one api.Net.
func TestOwnMemory(t *testing.T) {
	const text = "depth 1;region 0 16 bytes #05;comp;root r8 0 16 0 rw 0;in r1;lw r2 r8 0;add r2 r2 r1;sw r2 r8 0;out r2;jmp 0;gate sum 0 0 ->"
	n := api.Net{Programs: []api.Image{parse(t, text)}, Procs: []api.Proc{from(0, 0, 1), from(0, 2, 3)}, Queues: [][]uint64{{1, 2, 3}, nil, {100, 200}, nil}}
	want := flowOf([]api.Outcome{starved(0), starved(0)}, [][]uint64{{1, 2, 3}, {6, 8, 11}, {100, 200}, {105, 305}}, 3, 0, 2, 0)
	w, x := begun(t, n), begun(t, n)
	for range 40 {
		w.Do(0, 1)
		w.Do(1, 1)
	}
	checkFlow(t, "20.2: two of one program, step by step", w.Flow(), want)
	checkFlow(t, "20.2: another net of the same", x.Flow(), flowOf([]api.Outcome{at(0), at(0)}, n.Queues, 0, 0, 0, 0))
	finish(t, x, 2)
	checkFlow(t, "20.2: another net of the same, behind it", x.Flow(), want)
	checkFlow(t, "20.5: two of one program", ran(t, n, 100), want)
}

// TestManyNumbers: as many as may lie in a channel at first are all there, and more may come.
func TestManyNumbers(t *testing.T) {
	numbers := make([]uint64, api.MaxFuel)
	for k := range numbers {
		numbers[k] = uint64(k) * 3
	}
	n := netOf(t, [][]uint64{numbers, slices.Clone(numbers)}, []string{addCode}, from(0, 0, 1))
	f := ran(t, n, api.MaxFuel)
	put := slices.Clone(numbers)
	for _, k := range numbers[:api.MaxFuel/4] {
		put = append(put, k+10)
	}
	checkFlow(t, "20.5: channels with many numbers", f, flowOf([]api.Outcome{spent(0)}, [][]uint64{numbers, put}, api.MaxFuel/4, 0))
	if w, e := weft.New(n); e != api.OK || w.Do(0, api.MaxFuel) != api.MaxFuel || !sameQueues(w.Flow().Queues, f.Queues) {
		t.Errorf("20.3: channels with many numbers: %d", e)
	}
}
