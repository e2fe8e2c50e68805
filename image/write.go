package image

import (
	"paddock/api"
	"paddock/instr"
)

// magic is what the bytes of each image begin with.
const magic = "PADDK1"

// How a type begins.
const (
	ofInts = 0
	ofCaps = 1
)

// writer writes images that are right: what the bytes of a number cannot hold they have not. (Data alone may be longer than its two bytes tell; such an image has too many bytes in any case.)
type writer struct {
	bytes []byte
}

// put writes numbers of so many bytes each, the lowest first.
func (w *writer) put(size int, numbers ...uint64) {
	for _, n := range numbers {
		for range size {
			w.bytes = append(w.bytes, byte(n))
			n >>= 8
		}
	}
}

func (w *writer) text(s string) {
	w.bytes = append(w.bytes, s...)
}

func (w *writer) image(m api.Image) {
	w.text(magic)
	w.put(1, uint64(m.Depth), uint64(len(m.Regions)), uint64(len(m.Comps)), uint64(len(m.Gates)))
	for _, r := range m.Regions {
		w.region(r)
	}
	for _, c := range m.Comps {
		w.comp(c)
	}
	for _, g := range m.Gates {
		w.gate(g)
	}
}

func (w *writer) region(r api.Region) {
	w.put(4, r.Base, r.Len)
	w.put(2, uint64(len(r.Slots)))
	for _, s := range r.Slots {
		w.kind(s.Type)
		w.put(8, s.Cursor)
	}
	if len(r.Slots) == 0 {
		w.put(2, uint64(len(r.Data)))
		w.text(r.Data)
	}
}

func (w *writer) comp(c api.Comp) {
	w.put(1, uint64(len(c.Roots)))
	for _, r := range c.Roots {
		w.put(1, uint64(r.Reg))
		w.put(8, r.Cap.Base, r.Cap.End, r.Cap.Cursor)
		w.put(1, uint64(r.Cap.Perms), uint64(r.Cap.Seal))
	}
	w.put(2, uint64(len(c.Code)))
	code, _, _ := instr.Encode(c.Code...)
	w.text(code)
}

func (w *writer) gate(g api.Gate) {
	w.put(1, uint64(g.Comp))
	w.put(2, uint64(g.Entry))
	w.kinds(g.Args)
	w.kinds(g.Results)
}

func (w *writer) kinds(l []api.Type) {
	w.put(1, uint64(len(l)))
	for _, t := range l {
		w.kind(t)
	}
}

func (w *writer) kind(t api.Type) {
	if !t.Cap {
		w.put(1, ofInts)
		return
	}
	w.put(1, ofCaps)
	w.put(8, t.Base, t.End, t.Lo, t.Hi)
	w.put(1, uint64(t.Perms), uint64(t.Seal))
}
