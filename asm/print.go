package asm

import (
	"strconv"
	"strings"

	"paddock/api"
	"paddock/instr"
)

// inner stands ahead of lines that belong to the one above them.
const inner = "  "

// writer writes images that are right, a line at a time.
type writer struct {
	text strings.Builder
}

func (w *writer) line(lead string, tokens ...string) {
	w.text.WriteString(lead + strings.Join(tokens, " ") + "\n")
}

func (w *writer) image(m api.Image) {
	w.line("", "depth", strconv.Itoa(m.Depth))
	for _, r := range m.Regions {
		w.region(r)
	}
	for n, c := range m.Comps {
		w.comp(c, goneTo(m, n))
	}
	for n, g := range m.Gates {
		w.gate(n, g)
	}
}

func (w *writer) region(r api.Region) {
	tokens := append([]string{"region"}, numbers(r.Base, r.Len)...)
	switch {
	case len(r.Slots) > 0:
		tokens = append(tokens, "slots")
	case r.Data != "":
		tokens = append(tokens, "bytes", dataText(r.Data))
	default:
		tokens = append(tokens, "bytes")
	}
	w.line("", tokens...)
	for _, s := range r.Slots {
		tokens := append([]string{"slot"}, typeTokens(s.Type)...)
		tokens = append(tokens, "at")
		w.line(inner, append(tokens, numbers(s.Cursor)...)...)
	}
}

// comp writes a compartment, with labels at the instructions that are gone to.
func (w *writer) comp(c api.Comp, goneTo []bool) {
	w.line("", "comp")
	for _, r := range c.Roots {
		tokens := append([]string{"root", registerName(r.Reg)}, numbers(r.Cap.Base, r.Cap.End, r.Cap.Cursor)...)
		w.line(inner, append(tokens, permsText(r.Cap.Perms), strconv.Itoa(r.Cap.Seal))...)
	}
	for n, i := range c.Code {
		if goneTo[n] {
			w.line("", labelName(n)+":")
		}
		w.line(inner, instTokens(i)...)
	}
}

func (w *writer) gate(n int, g api.Gate) {
	tokens := []string{"gate", gateName(n), strconv.Itoa(g.Comp), labelName(g.Entry)}
	for _, t := range g.Args {
		tokens = append(tokens, typeTokens(t)...)
	}
	tokens = append(tokens, "->")
	for _, t := range g.Results {
		tokens = append(tokens, typeTokens(t)...)
	}
	w.line("", tokens...)
}

// goneTo tells of each instruction of a compartment whether another one, or a gate, goes to it.
func goneTo(m api.Image, comp int) []bool {
	code := m.Comps[comp].Code
	l := make([]bool, len(code))
	for _, i := range code {
		for _, o := range operands(&i) {
			if o.letter == 't' {
				l[*o.field] = true
			}
		}
	}
	for _, g := range m.Gates {
		if g.Comp == comp {
			l[g.Entry] = true
		}
	}
	return l
}

func instTokens(i api.Inst) []string {
	tokens := []string{instr.Name(i.Op)}
	for _, o := range operands(&i) {
		tokens = append(tokens, operandText(o))
	}
	return tokens
}

func operandText(o operand) string {
	n := *o.field
	switch o.letter {
	case 'r':
		return registerName(n)
	case 'p':
		return permsText(api.Perms(n))
	case 't':
		return labelName(n)
	case 'g':
		return gateName(n)
	}
	return strconv.Itoa(n)
}

func typeTokens(t api.Type) []string {
	if !t.Cap {
		return []string{"int"}
	}
	tokens := append([]string{"cap"}, numbers(t.Base, t.End, t.Lo, t.Hi)...)
	return append(tokens, permsText(t.Perms), strconv.Itoa(t.Seal))
}

func labelName(n int) string {
	return "L" + strconv.Itoa(n)
}

func gateName(n int) string {
	return "G" + strconv.Itoa(n)
}

func numbers(l ...uint64) []string {
	var texts []string
	for _, n := range l {
		texts = append(texts, strconv.FormatUint(n, 10))
	}
	return texts
}

func dataText(data string) string {
	b := []byte{'#'}
	for at := range len(data) {
		b = append(b, hexDigits[data[at]>>4], hexDigits[data[at]&15])
	}
	return string(b)
}
