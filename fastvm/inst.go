package fastvm

import (
	"slices"

	"paddock/api"
)

// inst is an instruction. What its operation does is a method of it.
type inst api.FInst

// row is a gate's code: of each instruction the method value that does it on a machine.
type row []func(*Machine)

// readied looks up the method values of a program's code, which may be.
func readied(code [][]api.FInst) []row {
	rows := make([]row, len(code))
	for k, l := range code {
		rows[k] = make(row, len(l))
		for pc, i := range l {
			rows[k][pc] = inst(i).method()
		}
	}
	return rows
}

// copied is the same code in new memory.
func copied(code []row) []row {
	rows := make([]row, len(code))
	for k, l := range code {
		rows[k] = slices.Clone(l)
	}
	return rows
}

// method is the method value of an instruction. Kinds of operations follow one another by their numbers.
func (i inst) method() func(*Machine) {
	switch op := i.Op; {
	case op <= api.FSEQ:
		return i.reckoning()
	case op <= api.FRET:
		return i.steering()
	case op <= api.FSC:
		return i.touching()
	}
	return i.guarding()
}

// reckoning is that of one which lays a number in a register, or does nothing.
func (i inst) reckoning() func(*Machine) {
	switch i.Op {
	case api.FLI:
		return i.li
	case api.FMOV:
		return i.mov
	case api.FADD:
		return i.add
	case api.FSUB:
		return i.sub
	case api.FMUL:
		return i.mul
	case api.FAND:
		return i.and
	case api.FOR:
		return i.or
	case api.FXOR:
		return i.xor
	case api.FSHL:
		return i.shl
	case api.FSHR:
		return i.shr
	case api.FADDI:
		return i.addi
	case api.FSLT:
		return i.slt
	case api.FSEQ:
		return i.seq
	}
	return i.nop
}

// steering is that of one which goes elsewhere, ends the run, takes in or puts out.
func (i inst) steering() func(*Machine) {
	switch i.Op {
	case api.FJMP:
		return i.jmp
	case api.FBEQ:
		return i.beq
	case api.FBNE:
		return i.bne
	case api.FBLT:
		return i.blt
	case api.FBGE:
		return i.bge
	case api.FHALT:
		return i.halt
	case api.FTRAP:
		return i.trap
	case api.FIN:
		return i.takeIn
	case api.FOUT:
		return i.putOut
	case api.FCALL:
		return i.call
	}
	return i.ret
}

// touching is that of one which touches memory.
func (i inst) touching() func(*Machine) {
	switch i.Op {
	case api.FLB:
		return i.loadByte
	case api.FLW:
		return i.loadWord
	case api.FSB:
		return i.storeByte
	case api.FSW:
		return i.storeWord
	case api.FLC:
		return i.loadGranule
	}
	return i.storeGranule
}

// guarding is that of a guard.
func (i inst) guarding() func(*Machine) {
	switch i.Op {
	case api.FGLT:
		return i.guardBelow
	case api.FGGE:
		return i.guardNotBelow
	}
	return i.guard
}
