package shell

import (
	"slices"

	"paddock/api"
	"paddock/asm"
	"paddock/bound"
	"paddock/cert"
	"paddock/checker"
	"paddock/image"
	"paddock/reach"
)

// bytesOfLine is how many bytes a line tells.
const bytesOfLine = 32

func (s *shell) print(g given) {
	text, e := asm.Print(g.image())
	if e != api.OK {
		s.fail(g, e)
		return
	}
	s.tell("program", g.name)
	s.told.WriteString(text)
	s.tell("end")
}

func (s *shell) bytes(g given) {
	b, e := image.Encode(g.image())
	if e != api.OK {
		s.fail(g, e)
		return
	}
	s.answer(g, number(len(b)))
	for row := range slices.Chunk([]byte(b), bytesOfLine) {
		s.tellInner(digitsOf(row))
	}
}

// digitsOf tells bytes by two digits each.
func digitsOf(row []byte) string {
	var d []byte
	for _, b := range row {
		d = append(d, hexDigits[b>>4], hexDigits[b&15])
	}
	return string(d)
}

func (s *shell) check(g given) {
	r := checker.Check(g.image())
	if r.Reason == api.Fine {
		s.answer(g, "taken", number(r.Steps))
		return
	}
	s.answer(g, "refused", number(r.Reason), "gate", number(r.Gate), "at", number(r.Pc), "after", number(r.Steps))
}

func (s *shell) cost(g given) {
	c := bound.Gate(g.image(), g.gate)
	if !c.Known {
		s.answer(g, "unknown")
		return
	}
	s.answer(g, number(c.Steps), number(c.Calls), number(c.Inputs))
}

func (s *shell) grant(g given) {
	l := reach.Grant(g.image(), g.gate)
	s.answer(g, number(len(l)))
	for _, c := range l {
		s.tellInner(number(c.Base), number(c.End), number(c.Cursor), number(c.Perms), number(c.Seal))
	}
}

func (s *shell) cert(g given) {
	b, e := cert.Make(g.image())
	if e != api.OK {
		s.fail(g, e)
		return
	}
	s.answer(g, number(len(b)))
}
