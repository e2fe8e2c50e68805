package instr_test

import (
	"math"
	"testing"

	"paddock/api"
	"paddock/instr"
)

// field is a field of an instruction: A, B, C or Imm.
type field int

const (
	fieldA field = iota
	fieldB
	fieldC
	fieldImm
	fields
)

func (f field) String() string { return [...]string{"A", "B", "C", "Imm"}[f] }

// with is an instruction that has a number in a field.
func with(i api.Inst, f field, n int) api.Inst {
	switch f {
	case fieldA:
		i.A = n
	case fieldB:
		i.B = n
	case fieldC:
		i.C = n
	case fieldImm:
		i.Imm = n
	}
	return i
}

// room is what a field may be: from lo to hi.
type room struct{ lo, hi int }

// places tells for each shape what each of A, B, C and Imm may be, 0 to 0 where the shape does not name it; written out by the tables of 3.2 and 3.3.
func places(shape string) [fields]room {
	none := room{}
	reg, code := room{0, 15}, room{0, 255}
	signed, target := room{-2147483648, 2147483647}, room{0, 2147483647}
	switch shape {
	case "ri":
		return [fields]room{reg, none, none, signed}
	case "rr":
		return [fields]room{reg, reg, none, none}
	case "rrr":
		return [fields]room{reg, reg, reg, none}
	case "rri":
		return [fields]room{reg, reg, none, signed}
	case "t", "g":
		return [fields]room{none, none, none, target}
	case "rrt":
		return [fields]room{reg, reg, none, target}
	case "rt":
		return [fields]room{reg, none, none, target}
	case "r":
		return [fields]room{reg, none, none, none}
	case "c":
		return [fields]room{none, none, none, code}
	case "rrn":
		return [fields]room{reg, reg, none, {0, 65536}}
	case "rrp":
		return [fields]room{reg, reg, none, {0, 127}}
	case "ric":
		return [fields]room{reg, none, code, target}
	case "rc":
		return [fields]room{reg, none, code, none}
	case "rnc":
		return [fields]room{reg, none, code, {0, 65536}}
	case "rpc":
		return [fields]room{reg, none, code, {0, 127}}
	case "rsc":
		return [fields]room{reg, none, code, {0, 15}}
	}
	return [fields]room{}
}

// samples are an operation's instructions that are right: each field at its lowest, at its highest, and between.
func samples(o operation) []api.Inst {
	l := []api.Inst{{Op: o.op}}
	for f, r := range places(o.shape) {
		var next []api.Inst
		for _, i := range l {
			next = append(next, with(i, field(f), r.lo))
			if r.hi != r.lo {
				next = append(next, with(i, field(f), r.hi), with(i, field(f), r.lo+(r.hi-r.lo)/3))
			}
		}
		l = next
	}
	return l
}

func TestRightAtBothEnds(t *testing.T) {
	for _, o := range operations() {
		for _, i := range samples(o) {
			if e := instr.Right(i); e != api.OK {
				t.Errorf("3.3, 3.4: Right(%+v) = %d, want OK", i, e)
			}
		}
	}
}

// TestRightBeyondTheEnds takes one field at a time beyond what it may be, all others being right. Numbers that are right again when their high bits are cut off are among them.
func TestRightBeyondTheEnds(t *testing.T) {
	for _, o := range operations() {
		for f, r := range places(o.shape) {
			beyond := []int{r.lo - 1, r.hi + 1, r.lo - 256, r.hi + 256, r.lo - 1<<32, r.lo + 1<<32, r.hi - 1<<32, r.hi + 1<<32, math.MinInt, math.MaxInt}
			for _, i := range samples(o) {
				for _, n := range beyond {
					if n >= r.lo && n <= r.hi {
						continue
					}
					if w := with(i, field(f), n); instr.Right(w) != api.ErrField {
						t.Errorf("3.3, 3.4: Right(%+v) = %d, want ErrField for %v", w, instr.Right(w), field(f))
					}
				}
			}
		}
	}
}

// TestRightOfEachNumber goes through all numbers that a byte can be, and some around them, in each field.
func TestRightOfEachNumber(t *testing.T) {
	for _, o := range operations() {
		for f, r := range places(o.shape) {
			for n := -300; n <= 600; n++ {
				want := api.ErrField
				if n >= r.lo && n <= r.hi {
					want = api.OK
				}
				if i := with(api.Inst{Op: o.op}, field(f), n); instr.Right(i) != want {
					t.Errorf("3.3, 3.4: Right(%+v) = %d, want %d", i, instr.Right(i), want)
				}
			}
		}
	}
}

func TestRightOfSeveralWrongFields(t *testing.T) {
	for _, o := range operations() {
		for _, i := range []api.Inst{
			{Op: o.op, A: -1, B: -1, C: -1, Imm: math.MinInt},
			{Op: o.op, A: 16, B: 16, C: 256, Imm: math.MaxInt},
			{Op: o.op, A: 256, B: 256, C: 256, Imm: 1 << 32},
		} {
			if e := instr.Right(i); e != api.ErrField {
				t.Errorf("3.4: Right(%+v) = %d, want ErrField", i, e)
			}
		}
	}
}

func TestRightOfNoOperation(t *testing.T) {
	for _, o := range byNumber() {
		if o.name != "" {
			continue
		}
		for _, i := range []api.Inst{{}, {A: 1}, {B: 1}, {C: 1}, {Imm: 1}, {A: 16, B: -1, C: 256, Imm: math.MaxInt}, {A: -1, Imm: math.MinInt}} {
			i.Op = o.op
			if e := instr.Right(i); e != api.ErrOp {
				t.Errorf("3.4: Right(%+v) = %d, want ErrOp", i, e)
			}
		}
	}
}

func TestRightExamples(t *testing.T) {
	for _, c := range []struct {
		i    api.Inst
		want api.Errno
	}{
		{api.Inst{Op: api.ADD, A: 16}, api.ErrField},
		{api.Inst{Op: api.MOV, C: 1}, api.ErrField},
		{api.Inst{Op: api.TRAP, Imm: 256}, api.ErrField},
		{api.Inst{Op: api.TRAP, Imm: 255}, api.OK},
		{api.Inst{Op: api.TRAP, C: 7}, api.ErrField},
		{api.Inst{Op: 14}, api.ErrOp},
		{api.Inst{Op: 14, A: 99, B: -1, C: 7, Imm: 1 << 40}, api.ErrOp},
		{api.Inst{Op: api.GLT, Imm: -1}, api.ErrField},
		{api.Inst{Op: api.GGE, Imm: -1}, api.ErrField},
		{api.Inst{Op: api.LI, Imm: -1}, api.OK},
		{api.Inst{Op: api.JMP, Imm: 5000}, api.OK},
		{api.Inst{Op: api.CALL, Imm: 5000}, api.OK},
		{api.Inst{Op: api.RET}, api.OK},
		{api.Inst{Op: api.RET, A: 1}, api.ErrField},
	} {
		if got := instr.Right(c.i); got != c.want {
			t.Errorf("3.4: Right(%+v) = %d, want %d", c.i, got, c.want)
		}
	}
}
