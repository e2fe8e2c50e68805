package thread_test

import (
	"fmt"
	"testing"

	"paddock/api"
	"paddock/thread"
)

// TestMoreFuel: what is put out and touched with less fuel is the beginning of what is with more; and a run that is over stays so, however much more there is.
func TestMoreFuel(t *testing.T) {
	t.Parallel()
	over, longer := 0, 0
	for seed := range uint64(1500) {
		d := rolled(400_000 + seed)
		p := d.program()
		c := thread.Compile(p)
		args, inputs := d.numbers(p.Gates[0].Args), d.numbers(d.IntN(20))
		before := ran(t, c, 0, args, inputs, -1)
		fuel := 0
		for step := range 12 {
			r := ran(t, c, 0, args, inputs, fuel)
			if !begins(r, before) {
				t.Fatalf("23.4: program %d, with fuel %d: %+v, with less %+v", seed, fuel, r, before)
			}
			if len(r.Out) > fuel || len(r.Touches) > fuel {
				t.Fatalf("23.4: program %d, with fuel %d: %d put out, %d touched", seed, fuel, len(r.Out), len(r.Touches))
			}
			if before.Outcome.End != api.Spent {
				over++
				if !same(r, before) {
					t.Fatalf("23.4: program %d, with fuel %d: %+v, but it was over: %+v", seed, fuel, r, before)
				}
			}
			if len(r.Out) > len(before.Out) || len(r.Touches) > len(before.Touches) {
				longer++
			}
			before = r
			fuel += 1 + d.IntN(1+step*step)
		}
	}
	if over < 3000 || longer < 500 {
		t.Errorf("23.4: over %d times, longer %d times: the programs are too narrow", over, longer)
	}
}

// TestJustEnough: a run that is over has taken some number of steps: with one less it is Spent where it then ends, with just so many it is over.
func TestJustEnough(t *testing.T) {
	t.Parallel()
	ends := map[api.End]int{}
	for seed := range uint64(1500) {
		d := rolled(500_000 + seed)
		p := d.program()
		c := thread.Compile(p)
		args, inputs := d.numbers(p.Gates[0].Args), d.numbers(d.IntN(20))
		all := ran(t, c, 0, args, inputs, 600)
		if all.Outcome.End == api.Spent {
			continue
		}
		ends[all.Outcome.End]++
		enough := 1
		for ran(t, c, 0, args, inputs, enough).Outcome.End == api.Spent {
			enough++
		}
		what := fmt.Sprintf("program %d, with the fuel %d that is just enough", seed, enough)
		checkResult(t, what, ran(t, c, 0, args, inputs, enough), all)
		less := all
		less.Outcome.End, less.Outcome.Value, less.Outcome.Fault = api.Spent, 0, api.NoFault
		checkResult(t, what+", less one", ran(t, c, 0, args, inputs, enough-1), less)
	}
	for _, end := range []api.End{api.Halted, api.Guarded, api.Trapped, api.Overflow, api.Starved, api.Faulted} {
		if ends[end] < 10 {
			t.Errorf("23.4: the end %d came %d times: the programs are too narrow", end, ends[end])
		}
	}
}
