package erase_test

import (
	"strings"
	"testing"

	"paddock/api"
	"paddock/image"
	"paddock/instr"
	"paddock/tagmem"
	"paddock/transfer"
)

// line is a row of the chapter's table: operations, a Verdict, and what they become, with the fields that are named: v is the Value, p the address of an instruction. A star stands for the operation's own name.
type line struct {
	ops     string
	verdict api.Verdict
	becomes string
}

func chapter() []line {
	return []line{
		{"li", api.Plain, "fli ai"},
		{"mov caddr csetb csetbi candp cseal cunseal", api.Plain, "fmov ab"},
		{"add sub mul and or xor shl shr slt seq", api.Plain, "f* abc"},
		{"addi cinci", api.Plain, "faddi abi"},
		{"cinc", api.Plain, "fadd abc"},
		{"jmp", api.Plain, "fjmp i"},
		{"beq bne blt bge", api.Plain, "f* abi"},
		{"cpc", api.Plain, "fli ap"},
		{"jc", api.Goes, "fjmp v"},
		{"halt in out", api.Plain, "f* a"},
		{"trap call", api.Plain, "f* i"},
		{"ret", api.Plain, "fret "},
		{"cbase cend cperm csealed ctag csame", api.Known, "fli av"},
		{"csame", api.Plain, "fseq abc"},
		{"lb lw sb sw lc sc", api.Plain, "f* abi"},
		{"glt gge", api.Plain, "f* aci"},
		{"glt gge gtag gin gperm gseal", api.Holds, "fnop "},
		{"glt gge gtag gin gperm gseal", api.Fails, "fguard c"},
	}
}

// does is an operation with what is known of it.
type does struct {
	op      api.Op
	verdict api.Verdict
}

// chapterRows has what each operation becomes.
func chapterRows() map[does]string {
	rows := map[does]string{}
	for _, l := range chapter() {
		for _, name := range strings.Fields(l.ops) {
			rows[does{instr.Find(name), l.verdict}] = strings.ReplaceAll(l.becomes, "*", name)
		}
	}
	return rows
}

// model is what a program becomes, by the chapter's words; the table is one that will do.
func model(t testing.TB, m api.Image, table api.Table, seen map[does]int) api.Program {
	t.Helper()
	rows := chapterRows()
	p := api.Program{Memory: tagmem.NewTagged(m).Bytes(), Depth: m.Depth}
	for gate, g := range m.Gates {
		e := api.FEntry{Entry: g.Entry, Args: len(g.Args), Results: len(g.Results)}
		for _, r := range m.Comps[g.Comp].Roots {
			e.Roots[r.Reg] = r.Cap.Cursor
		}
		p.Gates = append(p.Gates, e)
		var code []api.FInst
		for pc, i := range m.Comps[g.Comp].Code {
			if !table[gate][pc].Live {
				code = append(code, api.FInst{Op: api.FTRAP})
				continue
			}
			d := transfer.Do(m, gate, pc, table[gate][pc])
			row, there := rows[does{i.Op, d.Verdict}]
			if !there || d.Reason != api.Fine {
				t.Fatalf("%+v has the Reason %d and the Verdict %d", i, d.Reason, d.Verdict)
			}
			seen[does{i.Op, d.Verdict}]++
			code = append(code, filled(row, i, d.Value, uint64(1048576+65536*g.Comp+8*i.Imm)))
		}
		p.Code = append(p.Code, code)
	}
	return p
}

// filled is an instruction with the fields that a row names.
func filled(row string, i api.Inst, value uint64, address uint64) api.FInst {
	name, fields, _ := strings.Cut(row, " ")
	f := api.FInst{Op: names()[name]}
	for _, field := range fields {
		switch field {
		case 'a':
			f.A = i.A
		case 'b':
			f.B = i.B
		case 'c':
			f.C = i.C
		case 'i':
			f.Imm = uint64(i.Imm)
		case 'v':
			f.Imm = value
		case 'p':
			f.Imm = address
		}
	}
	return f
}

// checkModel holds a Program against the model.
func checkModel(t *testing.T, m api.Image, table api.Table, p api.Program, seen map[does]int) {
	t.Helper()
	want := model(t, m, table, seen)
	if sameProgram(p, want) {
		return
	}
	for gate := range want.Code {
		checkCode(t, "12.4", p.Code[gate], want.Code[gate])
	}
	s, _ := image.Encode(m)
	t.Fatalf("the Program is not what the chapter says, of %q", s)
}
