package tagmem

import "paddock/api"

// How many bytes a number has that is read or written at once.
const (
	byteSize = 1
	wordSize = 8
)

// isWord tells whether a number of so many bytes may lie at an address. (The address is held against what it may be at most, so that nothing goes round.)
func isWord(addr uint64, size uint64) bool {
	return (size == byteSize || size == wordSize) && addr <= api.MaxMem-size
}

// isGranule tells whether a granule of memory begins at an address.
func isGranule(addr uint64) bool {
	return addr%api.Granule == 0 && addr < api.MaxMem
}

// lying is how much of a text lies in memory, if it is laid from an address on.
func lying(addr uint64, text string) string {
	if addr >= api.MaxMem {
		return ""
	}
	return text[:min(uint64(len(text)), api.MaxMem-addr)]
}
