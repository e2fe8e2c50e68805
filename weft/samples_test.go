package weft_test

import (
	"reflect"
	"slices"
	"strings"
	"testing"

	"paddock/api"
	"paddock/asm"
	"paddock/weft"
)

const top = ^uint64(0)

// parse reads a program, in whose text a semicolon stands for the end of a line.
func parse(t testing.TB, text string) api.Image {
	t.Helper()
	text = strings.ReplaceAll(text, ";", "\n")
	m, e, line := asm.Parse(text)
	if e != api.OK {
		t.Fatalf("Parse: %d, line %d of\n%s", e, line, text)
	}
	return m
}

// alone is a program of one compartment, with one gate, at its first instruction, without arguments.
func alone(t testing.TB, code string) api.Image {
	t.Helper()
	return parse(t, "depth 2;comp;"+code+";gate g 0 0 ->")
}

const (
	addCode = "in r1;addi r1 r1 10;out r1;jmp 0"
	oneCode = "li r1 1;out r1;halt r1"
)

// from is a process of a program, at the gate 0, without arguments.
func from(program, in, out int) api.Proc { return api.Proc{Program: program, In: in, Out: out} }

// netOf is a net of programs of one gate, by their code.
func netOf(t testing.TB, queues [][]uint64, code []string, procs ...api.Proc) api.Net {
	t.Helper()
	n := api.Net{Procs: procs, Queues: queues}
	for _, c := range code {
		n.Programs = append(n.Programs, alone(t, c))
	}
	return n
}

// pipe is the net of the chapter's example 1.
func pipe(t testing.TB) api.Net {
	t.Helper()
	return netOf(t, [][]uint64{{1, 2}, nil, nil}, []string{addCode}, from(0, 0, 1), from(0, 1, 2))
}

// solo is a net of one process, whose In is the channel 0, in which these lie, and whose Out is the channel 1.
func solo(t testing.TB, code string, inputs ...uint64) api.Net {
	t.Helper()
	return netOf(t, [][]uint64{inputs, nil}, []string{code}, from(0, 0, 1))
}

// begun is a net that is right, at its beginning.
func begun(t testing.TB, n api.Net) *weft.Weft {
	t.Helper()
	w, e := weft.New(n)
	if w == nil || e != api.OK {
		t.Fatalf("20.2: New: %v, %d, want a net and OK", w != nil, e)
	}
	return w
}

// ran is what comes of Run of a net that is right.
func ran(t testing.TB, n api.Net, fuel int) api.Flow {
	t.Helper()
	f, e := weft.Run(n, fuel)
	if e != api.OK {
		t.Fatalf("20.5: Run with fuel %d: %d, want OK", fuel, e)
	}
	return f
}

// at is a process that is not over, at an instruction of the gate 0.
func at(pc int) api.Outcome { return api.Outcome{Pc: pc} }

func ended(end api.End, value uint64, pc int) api.Outcome {
	return api.Outcome{End: end, Value: value, Pc: pc}
}

func halted(value uint64, pc int) api.Outcome { return ended(api.Halted, value, pc) }

func starved(pc int) api.Outcome { return ended(api.Starved, 0, pc) }

func spent(pc int) api.Outcome { return ended(api.Spent, 0, pc) }

// flowOf is a flow by its parts.
func flowOf(outcomes []api.Outcome, queues [][]uint64, taken ...int) api.Flow {
	return api.Flow{Outcomes: outcomes, Queues: queues, Taken: taken}
}

// sameQueues holds all numbers against all; a list without elements may be nil or not.
func sameQueues(a, b [][]uint64) bool {
	return slices.EqualFunc(a, b, func(x, y []uint64) bool { return slices.Equal(x, y) })
}

func same(a, b api.Flow) bool {
	return slices.Equal(a.Outcomes, b.Outcomes) && sameQueues(a.Queues, b.Queues) && slices.Equal(a.Taken, b.Taken)
}

func checkFlow(t testing.TB, what string, got, want api.Flow) {
	t.Helper()
	if !same(got, want) {
		t.Errorf("%s: %+v, want %+v", what, got, want)
	}
}

func isEmpty(f api.Flow) bool { return reflect.DeepEqual(f, api.Flow{}) }

// script is Do's, one behind the other, and what each is to answer.
type script []struct{ proc, steps, want int }

func (s script) check(t testing.TB, what string, w *weft.Weft) {
	t.Helper()
	for k, c := range s {
		if got := w.Do(c.proc, c.steps); got != c.want {
			t.Errorf("20.3: %s: row %d: Do(%d, %d) is %d, want %d", what, k, c.proc, c.steps, got, c.want)
		}
	}
}

func checkIdle(t testing.TB, what string, w *weft.Weft, want bool) {
	t.Helper()
	if got := w.Idle(); got != want {
		t.Errorf("20.4: %s: Idle is %v, want %v", what, got, want)
	}
}

// finish goes on, process by process, until nobody can.
func finish(t testing.TB, w *weft.Weft, procs int) {
	t.Helper()
	for rounds := 0; !w.Idle(); rounds++ {
		done := 0
		for k := range procs {
			done += w.Do(k, api.MaxFuel)
		}
		if done == 0 {
			t.Fatalf("20.4: nobody went on, but it is not Idle: %+v", w.Flow())
		}
	}
}
