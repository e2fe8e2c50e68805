package weft_test

import (
	"slices"
	"testing"

	"paddock/api"
	"paddock/weft"
)

// checkRight looks what the three calls that ask say of a net: with an error they answer nothing else.
func checkRight(t testing.TB, what string, n api.Net, want api.Errno) {
	t.Helper()
	if e := weft.Right(n); e != want {
		t.Errorf("20.1: %s: Right is %d, want %d", what, e, want)
	}
	w, e := weft.New(n)
	if e != want || (w != nil) != (want == api.OK) {
		t.Errorf("20.2: %s: New is %v, %d, want %d", what, w != nil, e, want)
	}
	f, e := weft.Run(n, 10)
	if e != want || want != api.OK && !isEmpty(f) {
		t.Errorf("20.5: %s: Run is %+v, %d, want %d", what, f, e, want)
	}
}

// gatesText has gates with no arguments, a capability, two integers, an integer and a capability, and seven integers.
const gatesText = "depth 1;region 0 32 bytes;comp;ret;gate a 0 0 ->;gate b 0 0 cap 0 32 0 8 r 0 ->;gate c 0 0 int int ->;gate d 0 0 int cap 0 32 0 8 r 0 ->;gate e 0 0 int int int int int int int ->"

// yard is a net that is right: of its three programs the first is in use twice, the second once, and the third not.
func yard(t testing.TB) api.Net {
	t.Helper()
	n := netOf(t, [][]uint64{{1}, nil, {2, 3}, nil}, []string{addCode}, from(0, 0, 1), from(1, 1, 2), from(0, 2, 3))
	n.Programs = append(n.Programs, parse(t, gatesText), alone(t, oneCode))
	return n
}

// turn is what is changed in the yard, and what it is.
type turn struct {
	what   string
	change func(n *api.Net)
}

// turned is the yard with some changes.
func turned(t testing.TB, l ...turn) (api.Net, string) {
	t.Helper()
	n, what := yard(t), ""
	for _, x := range l {
		x.change(&n)
		what += x.what + "; "
	}
	return n, what
}

// asManyAs lays the same behind a list again and again, until there are so many.
func asManyAs[T any](l []T, count int, with T) []T {
	return append(slices.Clone(l), slices.Repeat([]T{with}, count-len(l))...)
}

func manyPrograms(count int) turn {
	return turn{"many programs", func(n *api.Net) { n.Programs = asManyAs(n.Programs, count, n.Programs[0]) }}
}

func manyProcs(count int) turn {
	return turn{"many processes", func(n *api.Net) { n.Procs = asManyAs(n.Procs, count, from(0, -1, -1)) }}
}

func manyQueues(count int) turn {
	return turn{"many channels", func(n *api.Net) { n.Queues = asManyAs(n.Queues, count, nil) }}
}

func manyNumbers(channel, count int) turn {
	return turn{"many numbers", func(n *api.Net) { n.Queues[channel] = make([]uint64, count) }}
}

// counts are the nets of which there is too much.
func counts() []turn {
	return []turn{manyPrograms(api.MaxProcs + 1), manyProcs(api.MaxProcs + 1), manyQueues(api.MaxQueues + 1), manyNumbers(0, api.MaxFuel+1), manyNumbers(3, api.MaxFuel+1)}
}

// refused are the nets with a program that is not taken: of which processes are made or not, and the first or the last.
func refused(t testing.TB) []turn {
	t.Helper()
	var l []turn
	right := alone(t, oneCode)
	right.Comps[0].Code[0] = api.Inst{Op: api.LB, A: 1, B: 2}
	behind := alone(t, "li r1 1")
	wrong := alone(t, oneCode)
	wrong.Comps[0].Code[0].A = 16
	deep := alone(t, oneCode)
	deep.Depth = api.MaxDepth + 1
	for _, p := range []struct {
		what    string
		program api.Image
	}{{"an empty program", api.Image{}}, {"one that is not right", wrong}, {"one that is too deep", deep}, {"one that is right and not taken", right}, {"one that goes on behind its code", behind}} {
		for at, whose := range []string{"first", "second", "third, of which no process is made"} {
			l = append(l, turn{p.what + ", the " + whose, func(n *api.Net) { n.Programs[at] = p.program }})
		}
	}
	return l
}

// processes are the nets with a process that may not be, each of which is the first or the last one.
func processes() []turn {
	var l []turn
	for _, which := range []int{0, 2} {
		of := func(what string, change func(p *api.Proc)) {
			l = append(l, turn{what, func(n *api.Net) { change(&n.Procs[which]) }})
		}
		gate := func(what string, number int, args ...uint64) {
			of(what, func(p *api.Proc) { p.Program, p.Gate, p.Args = 1, number, args })
		}
		for _, k := range []int{-1, 3, -1 << 63, 1<<63 - 1} {
			of("no such program", func(p *api.Proc) { p.Program = k })
		}
		for _, k := range []int{-1, 1, -1 << 63, 1<<63 - 1} {
			of("no such gate", func(p *api.Proc) { p.Gate = k })
		}
		gate("no such gate, behind five", 5)
		gate("a gate that takes a capability", 1, 0)
		gate("a gate that takes a capability, without Args", 1)
		gate("a gate that takes an integer and a capability", 3, 0, 0)
		gate("one argument too many", 0, 1)
		gate("both arguments missing", 2)
		gate("one argument missing", 2, 1)
		gate("three arguments of two", 2, 1, 2, 3)
		gate("six arguments of seven", 4, 1, 2, 3, 4, 5, 6)
		gate("eight arguments of seven", 4, 1, 2, 3, 4, 5, 6, 7, 8)
		for _, k := range []int{-2, 4, -1 << 63, 1<<63 - 1} {
			of("no such In", func(p *api.Proc) { p.In = k })
			of("no such Out", func(p *api.Proc) { p.Out = k })
		}
	}
	return l
}

// shared are the nets of which two processes have the same channel.
func shared() []turn {
	return []turn{
		{"the same In, the first channel", func(n *api.Net) { n.Procs[0].In, n.Procs[1].In = 0, 0 }},
		{"the same In, the last channel", func(n *api.Net) { n.Procs[1].In, n.Procs[2].In = 3, 3 }},
		{"the same In, others between", func(n *api.Net) { n.Procs[0].In, n.Procs[2].In = 1, 1; n.Procs[1].In = -1 }},
		{"the same Out, the first channel", func(n *api.Net) { n.Procs[0].Out, n.Procs[1].Out = 0, 0 }},
		{"the same Out, the last channel", func(n *api.Net) { n.Procs[1].Out, n.Procs[2].Out = 3, 3 }},
		{"the same Out, others between", func(n *api.Net) { n.Procs[0].Out, n.Procs[2].Out = 2, 2; n.Procs[1].Out = -1 }},
		{"the same In and the same Out", func(n *api.Net) { n.Procs[1].In, n.Procs[1].Out = 0, 1 }},
		{"all the same", func(n *api.Net) {
			for k := range n.Procs {
				n.Procs[k].In, n.Procs[k].Out = 1, 1
			}
		}},
	}
}

// TestMayBe: nets that are right, at their edges.
func TestMayBe(t *testing.T) {
	gate := func(what string, number int, args ...uint64) turn {
		return turn{what, func(n *api.Net) { n.Procs[1].Gate, n.Procs[1].Args = number, args }}
	}
	for _, x := range []turn{
		{"as it is", func(*api.Net) {}},
		{"the empty net", func(n *api.Net) { *n = api.Net{} }},
		{"no processes", func(n *api.Net) { n.Procs = nil }},
		{"no processes and no channels", func(n *api.Net) { n.Procs, n.Queues = nil, nil }},
		{"channels alone", func(n *api.Net) { n.Procs, n.Programs = nil, nil }},
		manyPrograms(api.MaxProcs), manyProcs(api.MaxProcs), manyQueues(api.MaxQueues), manyNumbers(0, api.MaxFuel), manyNumbers(3, api.MaxFuel),
		{"all as many as may be", func(n *api.Net) {
			for _, x := range []turn{manyPrograms(api.MaxProcs), manyProcs(api.MaxProcs), manyQueues(api.MaxQueues)} {
				x.change(n)
			}
			for k := range n.Procs {
				n.Procs[k].Program, n.Procs[k].In, n.Procs[k].Out = k, k, 7-k
			}
		}},
		gate("two arguments", 2, 0, top), gate("seven arguments", 4, 1, 2, 3, 4, 5, 6, 7),
		gate("a list of no arguments", 0, []uint64{}...), gate("no list of arguments", 0),
		{"the last program", func(n *api.Net) { n.Procs[0].Program = 2 }},
		{"no In", func(n *api.Net) { n.Procs[0].In = -1 }},
		{"no Out", func(n *api.Net) { n.Procs[0].Out = -1 }},
		{"two without In", func(n *api.Net) { n.Procs[0].In, n.Procs[2].In = -1, -1 }},
		{"two without Out", func(n *api.Net) { n.Procs[0].Out, n.Procs[1].Out = -1, -1 }},
		{"all without In and Out", func(n *api.Net) {
			for k := range n.Procs {
				n.Procs[k].In, n.Procs[k].Out = -1, -1
			}
		}},
		{"the last channel as In", func(n *api.Net) { n.Procs[0].In = 3 }},
		{"the first channel as Out", func(n *api.Net) { n.Procs[0].Out = 0 }},
		{"each for itself", func(n *api.Net) {
			for k := range n.Procs {
				n.Procs[k].In, n.Procs[k].Out = k, k
			}
		}},
		{"a ring", func(n *api.Net) { n.Procs[2].Out = 0 }},
		{"crossed", func(n *api.Net) { n.Procs[0].In, n.Procs[0].Out, n.Procs[1].In, n.Procs[1].Out = 0, 1, 1, 0 }},
	} {
		n, what := turned(t, x)
		checkRight(t, what, n, api.OK)
	}
}

// told is an error, and nets of which it is told.
type told struct {
	turns []turn
	want  api.Errno
}

// errors are those of 20.1, in their order.
func errors(t testing.TB) []told {
	t.Helper()
	return []told{{counts(), api.ErrNet}, {refused(t), api.ErrCheck}, {processes(), api.ErrNet}, {shared(), api.ErrShared}}
}

// TestEachError: of 20.1, by itself.
func TestEachError(t *testing.T) {
	for _, c := range errors(t) {
		for _, x := range c.turns {
			n, what := turned(t, x)
			checkRight(t, what, n, c.want)
		}
	}
}

// TestFirstError: of two at once that one is told which stands ahead in 20.1, whichever the two are.
func TestFirstError(t *testing.T) {
	l := errors(t)
	for k, first := range l {
		for _, then := range l[k+1:] {
			for _, x := range first.turns {
				for _, y := range then.turns {
					// The one that stands ahead comes last, so that nothing of it is changed again.
					n, what := turned(t, y, x)
					if e := weft.Right(n); e != first.want {
						t.Errorf("20.1: %s: %d, want %d", what, e, first.want)
					}
				}
			}
		}
	}
}
