package tape

import "paddock/api"

// none stands for no place.
const none = -1

// spot is an instruction, by the gate by which it was come to.
type spot struct{ gate, pc int }

// noteAtHand notes what is at hand at the place to which the run has come.
func (t *Tape) noteAtHand(s api.FSnap) {
	at := spot{s.Gate, s.Pc}
	t.atHand[at] = append(t.atHand[at], t.steps)
}

// noteStore notes of the last step which bytes it wrote: what its instruction was, and what the registers held ahead of it.
func (t *Tape) noteStore(i api.FInst, regs [api.Regs]uint64) {
	first := regs[i.B] + i.Imm
	for k := range stored(i.Op) {
		t.stores[first+k] = append(t.stores[first+k], t.steps)
	}
}

// stored is how many bytes an operation stores.
func stored(op api.FOp) uint64 {
	switch op {
	case api.FSB:
		return 1
	case api.FSW:
		return 8
	case api.FSC:
		return api.Granule
	}
	return 0
}
