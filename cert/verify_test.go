package cert_test

import (
	"fmt"
	"testing"

	"paddock/api"
	"paddock/checker"
)

// shows is what Verify tells of a certificate: OK, if at is below 0; else ErrProve, for a gate and an instruction.
type shows struct {
	what  string
	cert  string
	gate  int
	at    int
	alone bool // of one gate: cert is what is said for it
}

func shownBy(what string, l ...says) shows { return shows{what, row(l...), 0, -1, true} }

func fails(what string, at int, l ...says) shows { return shows{what, row(l...), 0, at, true} }

func checkShown(t *testing.T, m api.Image, l ...shows) {
	t.Helper()
	for _, c := range l {
		s := c.cert
		if c.alone {
			s = certificate(s)
		}
		if c.at < 0 {
			checkShows(t, c.what, m, s)
		} else {
			checkVerify(t, c.what, m, s, api.ErrProve, c.gate, c.at)
		}
	}
}

// TestRoundSaid: of the chapter's example 2 all that may be said of each instruction, and what may not.
func TestRoundSaid(t *testing.T) {
	// 0 in r1; 1 glt r1 32 0; 2 addi r1 r1 -1; 3 bne r1 r0 1; 4 halt r1
	m := alone(t, rounds)
	head := at(1, anyInt())
	checkShown(t, m,
		shownBy("what Make says", head),
		fails("nothing", 3),
		fails("the entry alone", 3, at(0)),
		fails("the last one alone", 3, at(4)),
		// Of the head: more, less, something else.
		fails("r1 is not the greatest", 0, at(1, integer(0, top-1))),
		fails("r1 is not 0", 0, at(1, integer(1, top))),
		fails("r1 is 7", 0, at(1, single(7))),
		fails("r1 is a capability", 0, at(1, pointing(0, 0))),
		fails("r1 is not known", 1, at(1, nothing())),
		fails("nothing is known", 1, blank(1)),
		fails("r5 is 1", 0, head.with(5, single(1))),
		fails("r5 is a capability", 0, head.with(5, pointing(0, 0))),
		fails("r8 is an integer", 0, head.with(8, anyInt())),
		fails("r8 points elsewhere", 0, head.with(8, pointing(1, 5))),
		fails("r8 may surely be run", 0, head.with(8, but(pointing(0, 0), func(r *api.RType) { r.Must, r.May = rw|api.Exec, rw|api.Exec }))),
		fails("r8 may surely be loaded alone", 0, head.with(8, but(pointing(0, 0), func(r *api.RType) { r.Must, r.May = api.Load, api.Load }))),
		fails("r8 is sealed", 0, head.with(8, but(pointing(0, 0), func(r *api.RType) { r.Seal = 1 }))),
		shownBy("r5 is any integer", head.with(5, anyInt())),
		shownBy("r5 is not known", head.with(5, nothing())),
		shownBy("r8 is not known", head.with(8, nothing())),
		shownBy("r8 points from 0 to 9", head.with(8, pointing(0, 9))),
		shownBy("r8 may or may not be run", head.with(8, but(pointing(0, 0), func(r *api.RType) { r.May |= api.Exec }))),
		shownBy("r8 may or may not be stored by", head.with(8, but(pointing(0, 0), func(r *api.RType) { r.Must = api.Load }))),
		shownBy("r8's seal is not known", head.with(8, but(pointing(0, 0), func(r *api.RType) { r.Seal = -1 }))),
		shownBy("r0 is any integer", head.with(0, anyInt())),
		fails("r0 is not known", 3, head.with(0, nothing())),
		// Of the entry.
		shownBy("the entry too", at(0), head),
		shownBy("the entry, r1 is any", at(0, anyInt()), head),
		shownBy("the entry, r1 is not known", at(0, nothing()), head),
		fails("the entry, nothing is known", 0, blank(0), head),
		shownBy("the entry and the head, nothing is known but of r0 and r1", blank(0).with(0, anyInt()), blank(1).with(0, anyInt()).with(1, anyInt())),
		fails("the entry, r1 is 1", 0, at(0, single(1)), head),
		fails("the entry, r1 is from 1 on", 0, at(0, integer(1, top)), head),
		fails("the entry, r15 is a capability", 0, at(0).with(15, pointing(0, 0)), head),
		// Of those behind the head.
		shownBy("2: just so", head, at(2, integer(0, 31))),
		shownBy("2: less", head, at(2, integer(0, 32))),
		fails("2: more", 1, head, at(2, integer(0, 30))),
		fails("2: something else", 1, head, at(2, pointing(0, 0))),
		fails("2: not known", 2, head, at(2, nothing())),
		shownBy("3: just so", head, at(3, anyInt())),
		fails("3: more", 2, head, at(3, integer(0, 30))),
		fails("3: not known", 3, head, at(3, nothing())),
		shownBy("4: just so", head, at(4, single(0))),
		shownBy("4: less", head, at(4, anyInt())),
		fails("4: something else", 3, head, at(4, single(1))),
		fails("4: not known", 4, head, at(4, nothing())),
		shownBy("all", at(0), head, at(2, integer(0, 31)), at(3, anyInt()), at(4, single(0))),
		fails("all but the head", 3, at(0), at(2, integer(0, 31)), at(3, anyInt()), at(4, single(0))),
		// If less is said of 2, less is known of 3 and of the head.
		shownBy("2: any integer", head, at(2, anyInt()), at(3, anyInt())),
		fails("3: surely not 0, so that 4 is not come to", 2, head, at(3, integer(1, top))),
	)
}

// TestOnesThatNobodyComesTo: what is said of them must show, too.
func TestOnesThatNobodyComesTo(t *testing.T) {
	checkShown(t, alone(t, "li r1 1;halt r1;lb r1 r8 0;ret"),
		shownBy("nothing"),
		shownBy("2 is right", at(2, anyInt())),
		shownBy("2 is right, and 3", at(2, anyInt()), at(3, nothing())),
		shownBy("3, nothing is known", blank(3)),
		fails("2, nothing is known", 2, blank(2)),
		fails("2, r8 is an integer", 2, at(2).with(8, single(0))),
		fails("2, r8 points behind its end", 2, at(2).with(8, pointing(0, 32))),
		fails("3 is under what 2 leads to", 2, at(2), at(3, single(0))),
	)
	checkShown(t, alone(t, "ret;a: in r1;jmp a"),
		shownBy("nothing"),
		shownBy("1, nothing is known", blank(1)),
		shownBy("1, r1 is any", at(1, anyInt())),
		fails("1, r1 is 0", 2, at(1)),
		fails("2 alone", 2, blank(2)),
		shownBy("both", blank(1), blank(2)),
		fails("both, 2 more than 1 leads to", 1, blank(1), at(2)),
	)
	checkShown(t, alone(t, "trap 0;halt r8;trap 1"), shownBy("0 and 2", at(0), blank(2)), fails("1", 1, at(1)), shownBy("1, r8 is an integer", at(1).with(8, single(3))))
	// Behind a guard that fails, and a branch that is never taken.
	checkShown(t, alone(t, "gge r0 1 0;lb r1 r1 0;ret"), shownBy("nothing"), shownBy("1", at(1, pointing(3, 4))), fails("1", 1, at(1)))
	checkShown(t, alone(t, "li r1 1;beq r1 r0 3;ret;lb r1 r1 0;ret"), shownBy("nothing"), fails("3", 3, at(3)), fails("of 1 less is known", 3, at(1, anyInt())))
	// The last one goes on behind the code.
	checkShown(t, alone(t, "ret;li r1 1"), shownBy("nothing"), fails("1", 1, at(1)), fails("1, nothing is known", 1, blank(1)))
}

// TestStraight: of code that goes nowhere back something may be said all the same.
func TestStraight(t *testing.T) {
	m := alone(t, "in r1;glt r1 32 9;cinc r2 r8 r1;lb r3 r2 0;halt r3")
	checkShown(t, m,
		shownBy("nothing"), shownBy("the entry alone", at(0)), shownBy("the entry alone, r3 is not known", at(0).with(3, nothing())),
		shownBy("3 alone", at(3, integer(0, 31), pointing(0, 31))),
		shownBy("3 alone, r1 is not known", at(3, nothing(), pointing(0, 31))),
		fails("3 alone, r2 points too far", 3, at(3, integer(0, 31), pointing(0, 32))),
		fails("3 alone, r2 points not so far", 2, at(3, integer(0, 31), pointing(0, 30))),
		fails("1, and r1 is not known", 1, at(1, nothing())),
		fails("2, and r1 is any", 3, at(2, anyInt())),
		fails("2, and r8 is not known", 2, at(2, integer(0, 31)).with(8, nothing())),
		fails("4, and r3 is from 0 to 254", 3, at(4, integer(0, 31), pointing(0, 31), integer(0, 254))),
	)
}

// TestThreeWays: each of the three, at each gate; the gates ahead of it are shown.
func TestThreeWays(t *testing.T) {
	// 0 in r1; 1 jmp 2; 2 glt r1 32 0; 3 addi r1 r1 -1; 4 bne r1 r0 2; 5 halt r1
	m := gated(t, "in r1;jmp a;a: glt r1 32 0;addi r1 r1 -1;bne r1 r0 a;halt r1", "0 ->", "2 int ->", "2 ->", "0 int int ->")
	good := row(at(2, anyInt()))
	goods := func() []string { return []string{good, good, good, row(at(2, anyInt(), anyInt()))} }
	checkShows(t, "four gates", m, certificate(goods()...))
	for gate, want := range []struct{ reason, state, unsaid int }{{2, 1, 4}, {2, 2, 4}, {2, 4, 4}, {2, 1, 4}} {
		for _, c := range []struct {
			what string
			row  string
			at   int
		}{
			{"a Reason", row(blank(2)), want.reason},
			{"r1 is not known", row(at(2, nothing(), nothing())), want.reason},
			{"a state that is not under what is said", row(at(2, integer(0, 31), anyInt())), want.state},
			{"nothing is said where it goes back", row(), want.unsaid},
		} {
			rows := goods()
			rows[gate] = c.row
			checkVerify(t, fmt.Sprintf("gate %d: %s", gate, c.what), m, certificate(rows...), api.ErrProve, gate, c.at)
			for behind := gate + 1; behind < 4; behind++ {
				for _, r := range []string{row(), row(blank(2)), row(at(0, single(9)))} {
					rows := goods()
					rows[gate], rows[behind] = c.row, r
					checkVerify(t, fmt.Sprintf("gate %d: %s; and gate %d is not shown either", gate, c.what, behind), m, certificate(rows...), api.ErrProve, gate, c.at)
				}
			}
		}
	}
	for ahead := range 3 {
		rows := goods()
		rows[ahead], rows[3] = row(at(0), at(2, anyInt()), at(5, anyInt())), row()
		if ahead > 0 {
			rows[ahead] = row(at(2, anyInt()), at(5, single(0)))
		}
		checkVerify(t, "the last gate", m, certificate(rows...), api.ErrProve, 3, 4)
	}
}

// TestFirstThatShows: of two faults of one gate.
func TestFirstThatShows(t *testing.T) {
	// By number, though the entry is done ahead of all in a run.
	m := gated(t, "halt r1;in r1;jmp 0;li r1 3;jmp 1", "3 ->")
	checkShown(t, m,
		fails("nothing", 4),
		fails("of 1", 2, at(1, single(3))),
		shownBy("of 0 and 1", at(0, anyInt()), at(1, single(3))),
		fails("of 0", 4, at(0, anyInt())),
		fails("of 0 too little, of 1 too much", 0, at(0, nothing()), at(1, single(4))),
		fails("of 0 too much, of 1 too much", 2, at(0, single(4)), at(1, single(4))),
		fails("of 1 too much", 4, at(0, anyInt()), at(1, single(4))),
		fails("of 3 too much, of 0 too little", 3, at(0, nothing()), at(3, single(4))),
		fails("of 3 too much, of 1 too much", 3, at(1, single(4)), at(3, single(4))),
		// Entry alone is not what is said of 3, so what comes of it goes on by that.
		fails("of 3 another thing", 3, at(0, anyInt()), at(1, single(3)), at(3, single(0)).with(8, pointing(1, 1))),
	)
	// The entry comes ahead of a Reason at a lower number, and of one at its own.
	m = gated(t, "halt r8;trap 1;out r8;trap 2", "2 ->")
	checkShown(t, m,
		fails("nothing", 2),
		fails("of 0", 0, at(0)),
		fails("of 2 too much", 2, at(2, single(1))),
		fails("of 0, and of 2 too much", 2, at(0), at(2, single(1))),
		fails("of 0, and of 2 what may be", 0, at(0), at(2)),
	)
	// A branch: both ways lead wrong, or one of them; a state that is not under what is said, and one that is lost.
	m = alone(t, "in r1;a: out r1;beq r1 r0 a;halt r1")
	checkShown(t, m,
		fails("nothing", 2),
		shownBy("of 1", at(1, anyInt())),
		fails("of 3 too much", 2, at(1, anyInt()), at(3, single(0))),
		fails("of 3 too much, of 1 nothing", 2, at(3, single(0))),
		fails("of 1 too much", 0, at(1, integer(1, top))),
		fails("of 1 too little, of 3 too much", 1, at(1, nothing()), at(3, single(0))),
	)
	// What one leads to is looked at ahead of what the next one is.
	m = alone(t, "li r1 1;li r2 2;lb r3 r1 0;ret")
	checkShown(t, m,
		fails("nothing", 2),
		fails("of 2 too much", 1, at(2, single(1), single(3))),
		fails("of 1 too much", 0, at(1, single(2))),
		fails("of 1 something that never is", 0, at(1, pointing(0, 0))),
		fails("of 2 what r1 is not", 1, at(2, pointing(0, 0), single(2))),
	)
}

// TestToItself: an instruction that goes to itself, and one at the entry.
func TestToItself(t *testing.T) {
	checkShown(t, alone(t, "jmp 0"), fails("nothing", 0), shownBy("of 0", at(0)), shownBy("of 0, nothing is known", blank(0)), fails("of 0, too much", 0, at(0, single(1))))
	checkShown(t, alone(t, "in r1;bne r1 r0 1;halt r1"),
		fails("nothing", 1), shownBy("of 1", at(1, anyInt())), fails("of 1, r1 is not 0", 0, at(1, integer(1, top))), fails("of 2", 1, at(2, single(0))), shownBy("of both", at(1, anyInt()), at(2, single(0))))
	checkShown(t, alone(t, "a: bne r1 r0 a;ret"), shownBy("nothing: it is not taken"), shownBy("of 0", at(0)), shownBy("of 0, r1 is any", at(0, anyInt())))
	checkShown(t, alone(t, "cpc r6 1;jc r6"), fails("nothing", 1), shownBy("of 1", at(1).with(6, code(2, 1))), fails("of 1, r6 points to 0", 0, at(1).with(6, code(2, 0))), fails("of 1, r6 is not known", 1, at(1).with(6, nothing())))
	checkShown(t, alone(t, "cpc r6 0;jc r6"), fails("nothing", 1), fails("of 0", 1, at(0)), shownBy("of 0, r6 is not known", at(0).with(6, nothing())))
}

// TestComeTogether: what comes to one instruction from two is joined; by hand, at an instruction that a Reason tells.
func TestComeTogether(t *testing.T) {
	// r2 is 7 or 9 at 5.
	code := "in r1;beq r1 r0 4;li r2 7;jmp 5;li r2 9;cinci r6 r8 %s;cinc r6 r6 r2;lb r3 r6 0;halt r3"
	for offset, at := range map[string]int{"-7": -1, "-8": 7, "22": -1, "23": 7, "24": 7, "0": -1} {
		m := alone(t, fmt.Sprintf(code, offset))
		c := shownBy("two ways, " + offset + " on")
		c.at = at
		checkShown(t, m, c)
	}
	m := alone(t, fmt.Sprintf(code, "0"))
	checkShown(t, m,
		shownBy("what is joined is said", at(5, anyInt(), integer(7, 9))),
		fails("what the first one brings alone", 4, at(5, anyInt(), single(7))),
		fails("what the second one brings alone", 3, at(5, anyInt(), single(9))),
		fails("r1 as the first one brings it alone", 4, at(5, integer(1, top), integer(7, 9))),
		fails("r1 as the second one brings it alone", 3, at(5, single(0), integer(7, 9))),
		shownBy("one of the ways is said, too", at(4), at(5, anyInt(), integer(7, 9))),
	)
	// An integer and a capability: nothing is known then.
	m = alone(t, "in r1;beq r1 r0 4;mov r2 r8;jmp 5;li r2 9;out r2;ret")
	checkShown(t, m, fails("nothing", 5), fails("of 5, r2 is any integer", 3, at(5, anyInt(), anyInt())), fails("of 4", 5, at(4)))
	// The entry, too, is come to from elsewhere; by one that nobody comes to.
	m = gated(t, "li r1 5;jmp 2;halt r1", "2 ->")
	checkShown(t, m, shownBy("nothing"), shownBy("of 0", at(0)), shownBy("of 0 and 2", at(0), at(2, integer(0, 5))), fails("of 0 and 2, too much", 1, at(0), at(2)), fails("of 0 and 2, too much", 2, at(0), at(2, single(5))))
	m = gated(t, "mov r1 r8;jmp 2;halt r1", "2 ->")
	checkShown(t, m, shownBy("nothing"), fails("of 0", 2, at(0)), fails("of 0 and 2", 1, at(0), at(2)))
}

// TestNotTaken: programs that are not taken, by certificates that say much and little.
func TestNotTaken(t *testing.T) {
	// One that faults.
	checkShown(t, alone(t, "in r1;cinc r6 r8 r1;lb r2 r6 0;halt r2"),
		fails("nothing", 2), fails("r6 points within", 1, at(2, anyInt()).with(6, pointing(0, 31))), fails("r1 is small", 0, at(1, integer(0, 31))),
		fails("r1 is small, and r6 points within", 0, at(1, integer(0, 31)), at(2, integer(0, 31)).with(6, pointing(0, 31))),
		fails("all", 2, at(0), at(1, anyInt()), at(2, anyInt()).with(6, pointing(0, top))),
		fails("r6 is an integer", 1, at(2)), fails("the entry", 0, at(0, single(3))), fails("3", 2, at(3, anyInt(), anyInt())))
	checkShown(t, alone(t, "li r1 1"), fails("nothing", 0), fails("of 0", 0, at(0)), fails("of 0, too much", 0, at(0, single(3))), fails("of 0, nothing is known", 0, blank(0)))
	checkShown(t, alone(t, "in r1;bne r1 r0 0"), fails("nothing", 1), fails("of 0", 1, at(0, anyInt())), fails("of 1", 1, at(1, anyInt())), fails("of 1, r1 is not 0", 0, at(1, integer(1, top))))
	// One that never faults, though the checker does not see it.
	// 0 li r1 0; 1 cinc r6 r8 r1; 2 lb r2 r6 0; 3 addi r1 r1 1; 4 glt r1 32 7; 5 jmp 1
	within := func(n uint64) says { return at(1, integer(0, n), integer(0, 255)).with(6, nothing()) }
	m := alone(t, mild)
	if isTaken(m) {
		t.Fatalf("%s: it is taken", mild)
	}
	checkShown(t, m,
		fails("nothing", 5),
		shownBy("r1 is up to 31", within(31)),
		fails("r1 is up to 30", 5, within(30)),
		fails("r1 is up to 32", 2, within(32)),
		fails("r1 is any", 2, at(1, anyInt(), integer(0, 255)).with(6, nothing())),
		fails("r1 is 0", 5, within(0)),
		fails("r6 is an integer", 5, at(1, integer(0, 31), integer(0, 255))),
		fails("r6 is r8", 0, at(1, integer(0, 31), integer(0, 255)).with(6, pointing(0, 31))),
		fails("r2 is 0", 5, at(1, integer(0, 31)).with(6, nothing())),
		fails("r1 is not 0", 0, at(1, integer(1, 31), integer(0, 255)).with(6, nothing())),
		shownBy("all", at(0), within(31), within(31).with(6, pointing(0, 31)).of(2), within(31).with(6, pointing(0, 31)).of(3), at(4, integer(1, 32), integer(0, 255)).with(6, pointing(0, 31)), at(5, integer(1, 31), integer(0, 255)).with(6, pointing(0, 31))),
	)
	all := saying(checker.Check(m).Table)
	checkVerify(t, "what Check's table says of it", m, all, api.ErrProve, 0, 2)
}

// TestAllThatIsLive: a certificate that says all that Check's table does, of programs that are taken.
func TestAllThatIsLive(t *testing.T) {
	for _, c := range []string{
		"ret", "jmp 0", rounds, "in r1;beq r1 r0 4;mov r2 r8;jmp 5;li r2 9;ctag r3 r8;ret;trap 1",
		"li r1 8;a: li r2 8;b: addi r2 r2 -1;bne r2 r0 b;addi r1 r1 -1;bne r1 r0 a;ret",
		"mov r6 r8;a: cinci r6 r6 1;in r1;bne r1 r0 a;ret", "a: cpc r6 a;in r1;beq r1 r0 4;jc r6;ret",
		"lc r6 r9 0;a: in r1;beq r1 r0 b;lc r6 r9 16;jmp a;b: ret", "li r1 0;li r2 25;a: bge r1 r2 b;cinc r6 r8 r1;sb r1 r6 0;addi r1 r1 1;jmp a;b: halt r1",
	} {
		m := alone(t, c)
		r := checker.Check(m)
		if r.Reason != api.Fine {
			t.Fatalf("%s: it is refused", c)
		}
		checkShows(t, c, m, saying(r.Table))
		if x := table(t, m, saying(r.Table)); !sameTable(x, r.Table) {
			t.Errorf("22.5: %s: the Table of Check's table is another one", c)
		}
	}
}

// TestDepthAndCalls: what a CALL brings, and what a RET needs; types of capabilities.
func TestDepthAndCalls(t *testing.T) {
	m := parse(t, "depth 2;"+regions+"comp;"+held+"a: candp r1 r8 r;li r2 5;call peek;out r1;jmp a;comp;lb r1 r1 3;ret;gate main 0 0 ->;gate peek 1 0 cap 0 32 0 0 r 0 int -> int")
	lent := but(pointing(0, 0), func(r *api.RType) { r.Must, r.May = api.Load, api.Load })
	bare := func(pc int, r1 api.RType) says {
		return at(pc, r1, anyInt()).with(8, single(0)).with(9, single(0))
	}
	good := row(at(0, anyInt(), integer(0, 5)))
	if s := made(t, m); s != certificate(good, row()) {
		t.Errorf("22.2: calls: %s", told(m, s))
	}
	checkShown(t, m,
		shows{"made", certificate(good, row()), 0, -1, false},
		shows{"the called one is said, too", certificate(good, row(bare(0, lent), bare(1, anyInt()))), 0, -1, false},
		shows{"what is handed in is not known", certificate(good, row(bare(0, nothing()))), 1, 0, false},
		shows{"what is handed in points elsewhere", certificate(good, row(bare(0, but(lent, func(r *api.RType) { r.Point = api.Span{Lo: 1, Hi: 1} })))), 1, 0, false},
		shows{"the result is said to be a capability", certificate(good, row(bare(1, lent))), 1, 0, false},
		shows{"the result is not known", certificate(good, row(bare(1, nothing()))), 1, 1, false},
		shows{"what is handed on is not known", certificate(row(at(0, anyInt(), integer(0, 5)), at(2, nothing(), single(5))), row()), 0, 2, false},
		shows{"what is handed on points from 0 to 1", certificate(row(at(0, anyInt(), integer(0, 5)), at(2, but(lent, func(r *api.RType) { r.Point.Hi = 1 }), single(5))), row()), 0, 2, false},
		shows{"what comes back is said to be 3", certificate(row(at(0, anyInt(), integer(0, 5)), at(3, single(3), single(5))), row()), 0, 2, false},
		shows{"nothing of the first gate", certificate(row(), row()), 0, 4, false},
	)
}
