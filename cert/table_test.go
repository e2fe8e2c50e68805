package cert_test

import (
	"testing"

	"paddock/api"
	"paddock/cert"
)

// states are those of a gate with so many instructions; of others than these nothing is known.
func states(size int, l ...says) []api.State {
	row := make([]api.State, size)
	for _, s := range l {
		row[s.pc] = api.State{Live: true, Regs: s.regs}
	}
	return row
}

func checkTable(t *testing.T, what string, m api.Image, s string, want ...[]api.State) {
	t.Helper()
	x := table(t, m, s)
	if len(x) != len(want) {
		t.Fatalf("22.4: %s: %d rows, want %d", what, len(x), len(want))
	}
	for gate, row := range want {
		if len(x[gate]) != len(row) {
			t.Errorf("22.4: %s: gate %d has %d states, want %d", what, gate, len(x[gate]), len(row))
			continue
		}
		for pc, s := range row {
			if x[gate][pc] != s {
				t.Errorf("22.4: %s: gate %d, instruction %d: %v, want %v", what, gate, pc, x[gate][pc], s)
			}
		}
	}
}

// TestTableOfARound: what is said, and what comes of it.
func TestTableOfARound(t *testing.T) {
	m := alone(t, rounds)
	head := at(1, anyInt())
	want := states(5, at(0), head, at(2, integer(0, 31)), at(3, anyInt()), at(4, single(0)))
	checkTable(t, "what Make says", m, made(t, m), want)
	checkTable(t, "all is said", m, saying(api.Table{want}), want)
	// Where something is said that is known, though less than what comes; and what comes of it.
	checkTable(t, "less of the entry", m, certificate(row(at(0, nothing()).with(5, anyInt()), head.with(5, anyInt()))),
		states(5, at(0, nothing()).with(5, anyInt()), head.with(5, anyInt()), at(2, integer(0, 31)).with(5, anyInt()), at(3, anyInt()).with(5, anyInt()), at(4, single(0)).with(5, anyInt())))
	checkTable(t, "less of the head", m, certificate(row(head.with(8, nothing()))),
		states(5, at(0), head.with(8, nothing()), at(2, integer(0, 31)).with(8, nothing()), at(3, anyInt()).with(8, nothing()), at(4, single(0)).with(8, nothing())))
	checkTable(t, "less of 2", m, certificate(row(head, at(2, integer(0, 40)))), states(5, at(0), head, at(2, integer(0, 40)), at(3, anyInt()), at(4, single(0))))
	checkTable(t, "less of 4", m, certificate(row(head, at(4, integer(0, 1)))), states(5, at(0), head, at(2, integer(0, 31)), at(3, anyInt()), at(4, integer(0, 1))))
	// With r0 any integer the branch says nothing of r1.
	checkTable(t, "r0 is any", m, certificate(row(head.with(0, anyInt()))), states(5, at(0), head.with(0, anyInt()),
		at(2, integer(0, 31)).with(0, anyInt()), at(3, anyInt()).with(0, anyInt()), at(4, anyInt()).with(0, anyInt())))
}

// TestTableNotLive: of what nobody comes to nothing is known, unless it is said, or comes of what is said.
func TestTableNotLive(t *testing.T) {
	m := alone(t, "ret;in r1;jmp 1;trap 1")
	checkTable(t, "nothing said", m, certificate(row()), states(4, at(0)))
	checkTable(t, "of 1", m, certificate(row(at(1, anyInt()))), states(4, at(0), at(1, anyInt()), at(2, anyInt())))
	checkTable(t, "of 1, nothing is known", m, certificate(row(blank(1))), states(4, at(0), blank(1), blank(2).with(1, anyInt())))
	checkTable(t, "of 3", m, certificate(row(blank(3))), states(4, at(0), blank(3)))
	m = gated(t, "trap 1;in r1;trap 2;trap 3", "2 ->", "0 ->")
	checkTable(t, "the entry alone", m, certificate(row(), row()), states(4, at(2)), states(4, at(0)))
	m = alone(t, "li r1 1;beq r1 r0 3;gge r1 2 0;ret")
	checkTable(t, "a way that is never taken, and a guard that fails", m, certificate(row()), states(4, at(0), at(1, single(1)), at(2, single(1))))
	// What comes of an instruction by one way is not known by the other one.
	m = alone(t, "in r1;beq r1 r0 3;ret;out r1;trap 1")
	checkTable(t, "a branch", m, certificate(row()), states(5, at(0), at(1, anyInt()), at(2, integer(1, top)), at(3, single(0)), at(4, single(0))))
}

// TestTableJoins: what comes to one instruction from two; an entry among them.
func TestTableJoins(t *testing.T) {
	m := alone(t, "in r1;beq r1 r0 4;li r2 7;jmp 5;li r2 9;ret")
	checkTable(t, "two", m, certificate(row()), states(6, at(0), at(1, anyInt()), at(2, integer(1, top)), at(3, integer(1, top), single(7)), at(4, single(0)), at(5, anyInt(), integer(7, 9))))
	m = alone(t, "in r1;beq r1 r0 4;li r2 7;jmp 5;mov r2 r8;ret")
	checkTable(t, "an integer and a capability", m, certificate(row()), states(6, at(0), at(1, anyInt()), at(2, integer(1, top)), at(3, integer(1, top), single(7)), at(4, single(0)), at(5, anyInt(), nothing())))
	m = alone(t, "in r1;beq r1 r0 6;li r2 7;in r3;beq r3 r0 6;li r2 5;ret")
	checkTable(t, "three", m, certificate(row()), states(7, at(0), at(1, anyInt()), at(2, integer(1, top)), at(3, integer(1, top), single(7)),
		at(4, integer(1, top), single(7), anyInt()), at(5, integer(1, top), single(7), integer(1, top)), at(6, anyInt(), integer(0, 7), anyInt())))
	m = gated(t, "li r1 5;jmp 2;halt r1", "2 ->", "0 ->")
	checkTable(t, "the entry", m, certificate(row(at(0, nothing())), row()), states(3, at(0, nothing()), at(1, single(5)), at(2, integer(0, 5))), states(3, at(0), at(1, single(5)), at(2, single(5))))
	// Both ways of a branch go to one.
	m = alone(t, "in r1;beq r1 r0 2;ret")
	checkTable(t, "a branch to the next one", m, certificate(row()), states(3, at(0), at(1, anyInt()), at(2, anyInt())))
	// Of what is said nothing is joined: what comes is under it.
	m = alone(t, "in r1;beq r1 r0 4;li r2 7;jmp 5;li r2 9;ret")
	checkTable(t, "it is said", m, certificate(row(at(5, anyInt(), integer(0, 99)))), states(6, at(0), at(1, anyInt()), at(2, integer(1, top)), at(3, integer(1, top), single(7)), at(4, single(0)), at(5, anyInt(), integer(0, 99))))
}

// TestTableRows: by gate and instruction; of compartments of unlike code.
func TestTableRows(t *testing.T) {
	m := parse(t, "depth 2;"+regions+"comp;jmp 0;comp;"+held+"trap 0;in r2;ret;comp;root r8 0 32 0 rw 0;ret;trap 1;gate g 1 1 int -> int;gate h 0 0 ->;gate k 2 0 ->;gate l 1 0 ->")
	bare := at(0).with(8, single(0)).with(9, single(0))
	checkTable(t, "four gates", m, certificate(row(), row(bare), row(), row()),
		states(3, at(1, anyInt()), at(2, anyInt(), anyInt())), states(1, bare), states(2, at(0).with(9, single(0))), states(3, at(0)))
}

// TestTableOfMild: a program that the checker does not take: the Table says of it what the checker does not know.
func TestTableOfMild(t *testing.T) {
	m := alone(t, mild)
	head := at(1, integer(0, 31), integer(0, 255)).with(6, nothing())
	moved := head.with(6, pointing(0, 31))
	loaded := at(4, integer(1, 32), integer(0, 255)).with(6, pointing(0, 31))
	checkTable(t, "mild", m, certificate(row(head)), states(6, at(0), head, moved.of(2), moved.of(3), loaded, at(5, integer(1, 31), integer(0, 255)).with(6, pointing(0, 31))))
}

// TestTableErrors: the same as Verify's; and nothing with them, also of a program of which the first gates are shown.
func TestTableErrors(t *testing.T) {
	m := gated(t, rounds, "0 ->", "1 int ->")
	good := row(at(1, anyInt()))
	for _, c := range []struct {
		s string
		e api.Errno
	}{
		{"", api.ErrCert}, {certificate(good), api.ErrCert}, {certificate(good, good) + "\x00", api.ErrCert}, {certificate(good, row(at(1, integer(5, 4)))), api.ErrCert},
		{certificate(good, row()), api.ErrProve}, {certificate(row(), good), api.ErrProve}, {certificate(good, row(at(1, single(1)))), api.ErrProve}, {certificate(good, row(blank(1))), api.ErrProve},
		{certificate(good, good), api.OK},
	} {
		x, e := cert.Table(m, c.s)
		if e != c.e || (x == nil) != (e != api.OK) {
			t.Errorf("22.4: Table: %d rows, %d, want %d", len(x), e, c.e)
		}
	}
	m.Depth = 0
	if x, e := cert.Table(m, certificate(good, good)); x != nil || e != api.ErrCert {
		t.Errorf("22.4: Table of what is not right: %d rows, %d", len(x), e)
	}
}
