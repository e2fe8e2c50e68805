package shell

import (
	"cmp"
	"slices"

	"paddock/api"
	"paddock/link"
	"paddock/trim"
)

// Modules at hand are never written into, as one list may belong to several of them.

// lay lays a module under a command's name.
func (s *shell) lay(g given, m api.Module) {
	s.atHand[g.name] = m
	s.answer(g, "ok")
}

// laying makes a command that reads a program, with a reader that tells an error's place, too.
func laying(read func(text string) (api.Image, api.Errno, int), where string) func(*shell, given) {
	return func(s *shell, g given) {
		m, e, at := read(g.text)
		if e != api.OK {
			s.fail(g, e, where, number(at))
			return
		}
		s.lay(g, api.Module{Image: m, Names: make([]string, len(m.Gates))})
	}
}

func (s *shell) link(g given) {
	m, e, at := link.Link(g.programs...)
	if e != api.OK {
		s.fail(g, e, "at", number(at))
		return
	}
	s.lay(g, m)
}

func (s *shell) trim(g given) {
	m := g.programs[0]
	shorter, ok := trim.Trim(m.Image)
	if !ok {
		s.fail(g, api.ErrCheck)
		return
	}
	m.Image = shorter
	s.lay(g, m)
}

func (s *shell) name(g given) {
	m := g.programs[0]
	if g.gate >= len(m.Image.Gates) {
		s.fail(g, api.ErrGate)
		return
	}
	m.Names = slices.Clone(m.Names)
	m.Names[g.gate] = g.other
	s.lay(g, m)
}

func (s *shell) need(g given) {
	m := g.programs[0]
	if g.gate >= len(m.Image.Gates) {
		s.fail(g, api.ErrGate)
		return
	}
	m.Needs = needing(m.Needs, api.Need{Gate: g.gate, Name: g.other})
	s.lay(g, m)
}

// needing is needs, by rising gates, with one more, or with that in the place of the one of its gate.
func needing(needs []api.Need, n api.Need) []api.Need {
	byGate := func(a, b api.Need) int { return cmp.Compare(a.Gate, b.Gate) }
	l := slices.Clone(needs)
	k, there := slices.BinarySearchFunc(l, n, byGate)
	if !there {
		return slices.Insert(l, k, n)
	}
	l[k] = n
	return l
}
