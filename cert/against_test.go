package cert_test

import (
	"testing"

	"paddock/api"
	"paddock/cert"
	"paddock/checker"
)

// counted is how often the dice came to each sort of answer.
type counted struct {
	ways           map[way]int
	atEntry, later int
	shown, none    int
	mild           int
}

func newCounted() counted { return counted{ways: map[way]int{}} }

func (c *counted) count(v verdict, isTaken bool) {
	switch {
	case v.e == api.ErrCert:
		c.none++
	case v.e == api.ErrProve:
		c.ways[v.by]++
		if v.atEntry {
			c.atEntry++
		}
		if v.gate > 0 {
			c.later++
		}
	case isTaken:
		c.shown++
	default:
		c.mild++
	}
}

// against holds what Verify and Table answer against the model, and tells what that says.
func against(t *testing.T, m api.Image, s string) verdict {
	t.Helper()
	want := modelVerify(m, s)
	if e, gate, pc := cert.Verify(m, s); e != want.e || gate != want.gate || pc != want.pc {
		t.Fatalf("22.3: Verify: %d, %d, %d, want %d, %d, %d, of\n%s\nby\n%s", e, gate, pc, want.e, want.gate, want.pc, shown(m), told(m, s))
	}
	x, e := cert.Table(m, s)
	if e != want.e || !sameTable(x, want.table) || (x == nil) != (e != api.OK) {
		t.Fatalf("22.4: Table: %d, want %d, or another table, of\n%s\nby\n%s", e, want.e, shown(m), told(m, s))
	}
	return want
}

// certificates are some of a program: of what Check's table says, or is gone back to, and of that turned.
func (d dice) certificates(m api.Image, n int) []string {
	all := checker.Check(m).Table
	var l []string
	for _, x := range []api.Table{all, kept(m, all)} {
		l = append(l, saying(x))
		for range n {
			l = append(l, saying(d.turned(m, x)))
		}
	}
	return l
}

// TestAgainstModel: programs of dice, taken and not, by certificates of dice.
func TestAgainstModel(t *testing.T) {
	t.Parallel()
	c := newCounted()
	try := func(d dice, m api.Image, isTaken bool) {
		for _, s := range d.certificates(m, 4) {
			c.count(against(t, m, s), isTaken)
		}
	}
	for k, m := range many() {
		try(rolled(3000+uint64(k)), m, true)
	}
	for seed := range uint64(200) {
		d := rolled(4000 + seed)
		m := d.any()
		try(d, m, isTaken(m))
		m = d.counting()
		try(d, m, isTaken(m))
		if x, ok := patient(m); ok {
			c.count(against(t, m, saying(x)), isTaken(m))
			c.count(against(t, m, saying(d.turned(m, x))), isTaken(m))
		}
	}
	for _, by := range []way{byReason, byState, byUnsaid} {
		if c.ways[by] < 100 {
			t.Errorf("22.3: the way %d showed %d times: the dice are too narrow", by, c.ways[by])
		}
	}
	if c.atEntry < 25 || c.later < 500 || c.shown < 500 || c.mild < 50 || c.none > 0 {
		t.Errorf("22.3: %+v: the dice are too narrow", c)
	}
}

// TestBytesAgainstModel: bytes that are bent.
func TestBytesAgainstModel(t *testing.T) {
	t.Parallel()
	c := newCounted()
	for k, m := range many()[:100] {
		d := rolled(5000 + uint64(k))
		for _, s := range d.certificates(m, 2) {
			for range 12 {
				c.count(against(t, m, d.bent(s)), true)
			}
		}
	}
	if c.none < 1000 || c.shown < 100 || c.ways[byState] < 100 {
		t.Errorf("22.1: %+v: the dice are too narrow", c)
	}
}

// TestLeftOut: of what Make made each state left out; it does not show it any more.
func TestLeftOut(t *testing.T) {
	t.Parallel()
	left := 0
	for _, m := range many()[:200] {
		all := kept(m, checker.Check(m).Table)
		for gate, states := range all {
			for pc, s := range states {
				if !s.Live {
					continue
				}
				x := copied(all)
				x[gate][pc] = api.State{}
				v := against(t, m, saying(x))
				if v.e != api.ErrProve || v.gate != gate || v.pc < pc {
					t.Fatalf("22.3: without the state of %d of the gate %d: %d, %d, %d, of\n%s", pc, gate, v.e, v.gate, v.pc, shown(m))
				}
				left++
			}
		}
	}
	if left < 1000 {
		t.Errorf("%d were left out: the dice are too narrow", left)
	}
}

// TestOneMore: with a state more that Check's table has it shows it all the same; and with all of some.
func TestOneMore(t *testing.T) {
	t.Parallel()
	more := 0
	for k, m := range many()[:120] {
		d := rolled(6000 + uint64(k))
		all := checker.Check(m).Table
		least := kept(m, all)
		try := func(x api.Table) {
			t.Helper()
			if v := against(t, m, saying(x)); v.e != api.OK {
				t.Fatalf("22.5: with more of what Check's table says: %d, %d, %d, of\n%s", v.e, v.gate, v.pc, shown(m))
			}
			more++
		}
		for range 6 {
			one, some := copied(least), copied(least)
			gate := d.IntN(len(all))
			pc := d.IntN(len(all[gate]))
			one[gate][pc] = all[gate][pc]
			for gate, states := range all {
				for pc, s := range states {
					if d.oneIn(3) {
						some[gate][pc] = s
					}
				}
			}
			try(one)
			try(some)
		}
	}
	if more == 0 {
		t.Errorf("nothing was tried")
	}
}
