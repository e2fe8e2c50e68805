package tagmem

import (
	"strings"

	"paddock/api"
)

const (
	pageSize  = 1024
	pageCount = api.MaxMem / pageSize
)

// page is a piece of memory.
type page [pageSize]byte

// pages are the bytes of memory. A page that was never written to is not there, and reads as noughts. All that is asked of pages must lie in memory.
type pages [pageCount]*page

func (p *pages) get(addr uint64) byte {
	if piece := p[addr/pageSize]; piece != nil {
		return piece[addr%pageSize]
	}
	return 0
}

func (p *pages) set(addr uint64, b byte) {
	piece := &p[addr/pageSize]
	if *piece == nil {
		*piece = new(page)
	}
	(*piece)[addr%pageSize] = b
}

// number reads a number of so many bytes, the lowest first.
func (p *pages) number(addr uint64, size uint64) uint64 {
	n := uint64(0)
	for i := range size {
		n |= uint64(p.get(addr+i)) << (8 * i)
	}
	return n
}

// setNumber writes the lowest so many bytes of a number.
func (p *pages) setNumber(addr uint64, size uint64, n uint64) {
	for i := range size {
		p.set(addr+i, byte(n>>(8*i)))
	}
}

// lay writes a text's bytes from an address on.
func (p *pages) lay(addr uint64, text string) {
	for i := range len(text) {
		p.set(addr+uint64(i), text[i])
	}
}

func (p *pages) text() string {
	var noughts page
	var b strings.Builder
	b.Grow(api.MaxMem)
	for _, piece := range p {
		if piece == nil {
			piece = &noughts
		}
		b.Write(piece[:])
	}
	return b.String()
}
