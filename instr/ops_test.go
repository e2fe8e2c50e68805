package instr_test

import (
	"strings"
	"testing"

	"paddock/api"
	"paddock/instr"
)

// operation is one of the operations, as the chapter tells it.
type operation struct {
	op    api.Op
	name  string
	shape string
}

// operations are all of them, each with its number written out, by their shapes.
func operations() []operation {
	return []operation{
		{1, "li", "ri"},
		{2, "mov", "rr"}, {50, "caddr", "rr"}, {51, "cbase", "rr"}, {52, "cend", "rr"}, {53, "cperm", "rr"}, {54, "csealed", "rr"}, {55, "ctag", "rr"},
		{3, "add", "rrr"}, {4, "sub", "rrr"}, {5, "mul", "rrr"}, {6, "and", "rrr"}, {7, "or", "rrr"}, {8, "xor", "rrr"}, {9, "shl", "rrr"}, {10, "shr", "rrr"}, {12, "slt", "rrr"}, {13, "seq", "rrr"},
		{40, "cinc", "rrr"}, {42, "csetb", "rrr"}, {45, "cseal", "rrr"}, {46, "cunseal", "rrr"}, {56, "csame", "rrr"},
		{11, "addi", "rri"}, {41, "cinci", "rri"}, {60, "lb", "rri"}, {61, "lw", "rri"}, {62, "sb", "rri"}, {63, "sw", "rri"}, {64, "lc", "rri"}, {65, "sc", "rri"},
		{20, "jmp", "t"},
		{21, "beq", "rrt"}, {22, "bne", "rrt"}, {23, "blt", "rrt"}, {24, "bge", "rrt"},
		{25, "cpc", "rt"},
		{26, "jc", "r"}, {27, "halt", "r"}, {29, "in", "r"}, {30, "out", "r"},
		{28, "trap", "c"},
		{31, "call", "g"},
		{32, "ret", ""},
		{43, "csetbi", "rrn"},
		{44, "candp", "rrp"},
		{70, "glt", "ric"}, {71, "gge", "ric"},
		{72, "gtag", "rc"},
		{73, "gin", "rnc"},
		{74, "gperm", "rpc"},
		{75, "gseal", "rsc"},
	}
}

// byNumber has the operations at their numbers, and at any other number one of no name.
func byNumber() [256]operation {
	var all [256]operation
	for n := range all {
		all[n].op = api.Op(n)
	}
	for _, o := range operations() {
		all[o.op] = o
	}
	return all
}

func TestEachNumberOfAByte(t *testing.T) {
	named := 0
	for _, o := range byNumber() {
		if got := instr.Name(o.op); got != o.name {
			t.Errorf("3.1: Name(%d) = %q, want %q", o.op, got, o.name)
		}
		if got := instr.Shape(o.op); got != o.shape {
			t.Errorf("3.2: Shape(%d) = %q, want %q", o.op, got, o.shape)
		}
		if o.name != "" {
			named++
		}
	}
	if named != 52 {
		t.Errorf("%d operations are held against the program", named)
	}
}

func TestFind(t *testing.T) {
	for _, o := range operations() {
		if got := instr.Find(o.name); got != o.op {
			t.Errorf("3.1: Find(%q) = %d, want %d", o.name, got, o.op)
		}
	}
}

func TestFindOfNoName(t *testing.T) {
	names := []string{"", " ", "\x00", "nop", "l", "x", "r1", "lis", "adds", "csetbis", "rri", "ric", "\xff", "Ⅼi"}
	for _, o := range operations() {
		first, rest := o.name[:1], o.name[1:]
		names = append(names, strings.ToUpper(o.name), strings.ToUpper(first)+rest, first+strings.ToUpper(rest), " "+o.name, o.name+" ", o.name+"\x00", o.name+o.name)
	}
	for _, n := range names {
		if got := instr.Find(n); got != 0 {
			t.Errorf("3.1: Find(%q) = %d, want 0", n, got)
		}
	}
}

// TestNamesOfApi holds the numbers that are written out here against those of package api.
func TestNamesOfApi(t *testing.T) {
	for name, op := range map[string]api.Op{
		"li": api.LI, "mov": api.MOV, "add": api.ADD, "sub": api.SUB, "mul": api.MUL, "and": api.AND, "or": api.OR, "xor": api.XOR, "shl": api.SHL, "shr": api.SHR, "addi": api.ADDI, "slt": api.SLT, "seq": api.SEQ,
		"jmp": api.JMP, "beq": api.BEQ, "bne": api.BNE, "blt": api.BLT, "bge": api.BGE, "cpc": api.CPC, "jc": api.JC, "halt": api.HALT, "trap": api.TRAP, "in": api.IN, "out": api.OUT, "call": api.CALL, "ret": api.RET,
		"cinc": api.CINC, "cinci": api.CINCI, "csetb": api.CSETB, "csetbi": api.CSETBI, "candp": api.CANDP, "cseal": api.CSEAL, "cunseal": api.CUNSEAL,
		"caddr": api.CADDR, "cbase": api.CBASE, "cend": api.CEND, "cperm": api.CPERM, "csealed": api.CSEALED, "ctag": api.CTAG, "csame": api.CSAME,
		"lb": api.LB, "lw": api.LW, "sb": api.SB, "sw": api.SW, "lc": api.LC, "sc": api.SC,
		"glt": api.GLT, "gge": api.GGE, "gtag": api.GTAG, "gin": api.GIN, "gperm": api.GPERM, "gseal": api.GSEAL,
	} {
		if instr.Find(name) != op || instr.Name(op) != name {
			t.Errorf("3.1: Find(%q) = %d, Name(%d) = %q", name, instr.Find(name), op, instr.Name(op))
		}
	}
}
