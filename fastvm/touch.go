package fastvm

import "paddock/api"

// How many bytes are touched at once, beside a granule.
const (
	byteSize = 1
	wordSize = 8
)

func (i inst) loadByte(m *Machine) { i.load(m, byteSize) }

func (i inst) loadWord(m *Machine) { i.load(m, wordSize) }

func (i inst) loadGranule(m *Machine) { i.load(m, api.Granule) }

func (i inst) storeByte(m *Machine) { i.store(m, byteSize) }

func (i inst) storeWord(m *Machine) { i.store(m, wordSize) }

func (i inst) storeGranule(m *Machine) { i.store(m, api.Granule) }

// load reads what memory has where an instruction means: of a granule the first word.
func (i inst) load(m *Machine, size uint64) {
	addr := m.b(i) + i.Imm
	if !m.touch(false, addr, size) {
		return
	}
	n, _ := m.memory.Load(addr, min(size, wordSize))
	m.lay(i.A, n)
}

// store writes there: into a granule a word, and noughts behind it.
func (i inst) store(m *Machine, size uint64) {
	addr := m.b(i) + i.Imm
	if !m.touch(true, addr, size) {
		return
	}
	m.memory.Store(addr, min(size, wordSize), m.a(i))
	if size > wordSize {
		m.memory.Store(addr+wordSize, wordSize, 0)
	}
	m.next()
}

// touch notes a touch; false, if the run is over, as not all of it lies in memory. (The address is held against what it may be at most, so that nothing goes round.)
func (m *Machine) touch(store bool, addr uint64, size uint64) bool {
	if addr > api.MaxMem-size {
		m.fail(api.FBounds)
		return false
	}
	m.touches = append(m.touches, api.Touch{Store: store, Addr: addr, Size: size})
	return true
}
