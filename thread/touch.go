package thread

import "paddock/api"

// How many bytes are touched at once, beside a granule.
const (
	byteSize = 1
	wordSize = 8
)

// touching is the step of an instruction which touches memory.
func touching(i api.FInst) step {
	switch i.Op {
	case api.FLB:
		return loading(i, byteSize)
	case api.FLW:
		return loading(i, wordSize)
	case api.FLC:
		return loading(i, api.Granule)
	case api.FSB:
		return storing(i, byteSize)
	case api.FSW:
		return storing(i, wordSize)
	}
	return storing(i, api.Granule)
}

// loading reads what memory has: of a granule the first word.
func loading(i api.FInst, size uint64) step {
	a, b, imm := i.A, i.B, i.Imm
	return func(r *run) next {
		addr := r.regs[b] + imm
		if !lies(addr, size) {
			return r.fail(api.FBounds)
		}
		r.note(false, addr, size)
		n, _ := r.memory.Load(addr, min(size, wordSize))
		return r.lay(a, n)
	}
}

// storing writes there: into a granule a word, and noughts behind it.
func storing(i api.FInst, size uint64) step {
	a, b, imm := i.A, i.B, i.Imm
	return func(r *run) next {
		addr := r.regs[b] + imm
		if !lies(addr, size) {
			return r.fail(api.FBounds)
		}
		r.note(true, addr, size)
		r.memory.Store(addr, min(size, wordSize), r.regs[a])
		if size > wordSize {
			r.memory.Store(addr+wordSize, wordSize, 0)
		}
		return onward
	}
}

// lies tells whether so many bytes lie in memory. (The address is held against what it may be at most, so that nothing goes round.)
func lies(addr, size uint64) bool { return addr <= api.MaxMem-size }

func (r *run) note(store bool, addr, size uint64) {
	r.touches = append(r.touches, api.Touch{Store: store, Addr: addr, Size: size})
}
