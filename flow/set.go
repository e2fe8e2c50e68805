package flow

// small is what a set may have: numbers from 0 on that can be counted up to.
type small interface {
	~int | ~uint8 | ~uint16 | ~uint32
}

const wordBits = 64

// A set has some of the numbers from 0 to its room, less 1: a bit of a word each.
type set[N small] struct {
	words []uint64
	room  int
}

func newSet[N small](room int) set[N] {
	return set[N]{words: make([]uint64, (room+wordBits-1)/wordBits), room: room}
}

func (s set[N]) has(n N) bool {
	return s.mayHave(n) && s.words[n/wordBits]&bitOf(n) != 0
}

// add puts n in, and tells whether that made a difference: it makes none, if there is no room for n.
func (s set[N]) add(n N) bool {
	if !s.mayHave(n) || s.has(n) {
		return false
	}
	s.words[n/wordBits] |= bitOf(n)
	return true
}

func (s set[N]) fill() {
	for k := range s.words {
		s.words[k] = ^uint64(0)
	}
}

func (s set[N]) mayHave(n N) bool { return n >= 0 && int(n) < s.room }

func bitOf[N small](n N) uint64 { return 1 << (n % wordBits) }

// truths tells of each number that there is room for whether it is in.
func (s set[N]) truths() []bool {
	l := make([]bool, s.room)
	for k := range l {
		l[k] = s.has(N(k))
	}
	return l
}
