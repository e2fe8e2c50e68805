package capmachine

import (
	"paddock/api"
	"paddock/capword"
)

// touch does LB to SC.
func (m *Machine) touch(i api.Inst) {
	switch i.Op {
	case api.LB:
		m.load(i, 1)
	case api.LW:
		m.load(i, 8)
	case api.SB:
		m.store(i, 1)
	case api.SW:
		m.store(i, 8)
	case api.LC:
		m.loadCap(i)
	case api.SC:
		m.storeCap(i)
	}
}

func (m *Machine) load(i api.Inst, size uint64) {
	addr := m.place(i, size, api.Load)
	n, e := m.memory.Load(addr, size)
	inMemory(e)
	m.note(false, addr, size)
	m.lay(i.A, integer(n))
}

func (m *Machine) store(i api.Inst, size uint64) {
	n := m.number(i.A)
	addr := m.place(i, size, api.Store)
	inMemory(m.memory.Store(addr, size, n))
	m.note(true, addr, size)
	m.next()
}

func (m *Machine) loadCap(i api.Inst) {
	addr := m.granule(i, api.LoadCap)
	v, e := m.memory.LoadCap(addr)
	inMemory(e)
	m.note(false, addr, api.Granule)
	m.lay(i.A, v)
}

func (m *Machine) storeCap(i api.Inst) {
	addr := m.granule(i, api.StoreCap)
	inMemory(m.memory.StoreCap(addr, m.at.regs[i.A]))
	m.note(true, addr, api.Granule)
	m.next()
}

// place is the address that an instruction means, which may be used for something.
func (m *Machine) place(i api.Inst, size uint64, p api.Perms) uint64 {
	c, off := m.held(i.B), uint64(i.Imm)
	allow(capword.Access(c, off, size, p))
	return c.Cursor + off
}

// granule is likewise the address of a capability's place.
func (m *Machine) granule(i api.Inst, p api.Perms) uint64 {
	addr := m.place(i, api.Granule, p)
	if addr%api.Granule != 0 {
		fail(api.FAlign)
	}
	return addr
}

// inMemory gives up the step, if memory has no such place: a capability's bounds may go beyond it.
func inMemory(e api.Errno) {
	if e != api.OK {
		fail(api.FBounds)
	}
}

func (m *Machine) note(store bool, addr uint64, size uint64) {
	m.touches = append(m.touches, api.Touch{Store: store, Addr: addr, Size: size})
}
