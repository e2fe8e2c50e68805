package image

import (
	"strings"

	"paddock/api"
	"paddock/instr"
)

// reader reads an image from the beginning of its bytes on. It keeps the first error and that one's place; behind it all that is read is nothing.
type reader struct {
	s     string
	at    int
	err   api.Errno
	place int
}

func (r *reader) fail(e api.Errno, place int) {
	if r.err == api.OK {
		r.err, r.place = e, place
	}
}

// take is the next n bytes, if they are there.
func (r *reader) take(n int) string {
	if n > len(r.s)-r.at {
		r.fail(api.ErrCut, len(r.s))
	}
	if r.err != api.OK {
		return ""
	}
	from := r.at
	r.at += n
	return r.s[from:r.at]
}

// number reads a number of so many bytes, the lowest first.
func (r *reader) number(size int) uint64 {
	n := uint64(0)
	for i, b := range []byte(r.take(size)) {
		n |= uint64(b) << (8 * i)
	}
	return n
}

func (r *reader) count(size int) int {
	return int(r.number(size))
}

// list reads n things. It stops at an error, as a count can tell of far more things than there are bytes.
func list[T any](r *reader, n int, one func() T) []T {
	var l []T
	for range n {
		x := one()
		if r.err != api.OK {
			return nil
		}
		l = append(l, x)
	}
	return l
}

func (r *reader) image() api.Image {
	if !strings.HasPrefix(r.s, magic) {
		r.fail(api.ErrMagic, 0)
		return api.Image{}
	}
	r.at = len(magic)
	depth, regions, comps, gates := r.count(1), r.count(1), r.count(1), r.count(1)
	m := api.Image{
		Regions: list(r, regions, r.region),
		Comps:   list(r, comps, r.comp),
		Gates:   list(r, gates, r.gate),
		Depth:   depth,
	}
	if r.at < len(r.s) {
		r.fail(api.ErrRest, r.at)
	}
	return m
}

func (r *reader) region() api.Region {
	g := api.Region{Base: r.number(4), Len: r.number(4)}
	if slots := r.count(2); slots > 0 {
		g.Slots = list(r, slots, r.slot)
		return g
	}
	// A piece of what was handed in would keep all of it.
	g.Data = strings.Clone(r.take(r.count(2)))
	return g
}

func (r *reader) slot() api.Slot {
	return api.Slot{Type: r.kind(), Cursor: r.number(8)}
}

func (r *reader) comp() api.Comp {
	return api.Comp{Roots: list(r, r.count(1), r.root), Code: r.code(r.count(2))}
}

func (r *reader) root() api.Root {
	return api.Root{Reg: r.count(1), Cap: r.capability()}
}

func (r *reader) capability() api.Cap {
	return api.Cap{Base: r.number(8), End: r.number(8), Cursor: r.number(8), Perms: r.perms(), Seal: r.count(1)}
}

func (r *reader) perms() api.Perms {
	return api.Perms(r.number(1))
}

// code reads n instructions. Those that are there whole are read even if there are fewer: a wrong one of them shows ahead of the end.
func (r *reader) code(n int) []api.Inst {
	from := r.at
	whole := min(n, (len(r.s)-from)/api.Width)
	l, e, at := instr.Decode(r.take(whole * api.Width))
	if e != api.OK {
		r.fail(e, from+at)
	}
	if whole < n {
		r.fail(api.ErrCut, len(r.s))
	}
	return l
}

func (r *reader) gate() api.Gate {
	return api.Gate{
		Comp:    r.count(1),
		Entry:   r.count(2),
		Args:    list(r, r.count(1), r.kind),
		Results: list(r, r.count(1), r.kind),
	}
}

func (r *reader) kind() api.Type {
	at := r.at
	switch r.number(1) {
	case ofInts:
		return api.Type{}
	case ofCaps:
		return api.Type{Cap: true, Base: r.number(8), End: r.number(8), Lo: r.number(8), Hi: r.number(8), Perms: r.perms(), Seal: r.count(1)}
	}
	r.fail(api.ErrType, at)
	return api.Type{}
}
