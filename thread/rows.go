package thread

import "paddock/api"

// gate is a way in. Its rows are those of its code, and one more: the place behind the code, so that a run that comes there comes to a step, too.
type gate struct {
	entry int // the row that begins at its Entry
	args  int
	roots [api.Regs]uint64
	rows  []row
}

// row is instructions made ready that are done one behind the other. No run comes to any of them but by the first.
type row struct {
	first int
	steps []step
}

// readied makes a gate ready, with its code.
func readied(g api.FEntry, code []api.FInst) gate {
	numbers := numbered(code, g.Entry)
	return gate{
		entry: numbers[g.Entry],
		args:  g.Args,
		roots: g.Roots,
		rows:  cut(stepsOf(code, numbers, g.Results), numbers),
	}
}

// numbered tells of each instruction, and of the place behind the code, which row it is in.
func numbered(code []api.FInst, entry int) []int {
	begins := make([]bool, len(code)+1)
	begins[entry], begins[len(code)] = true, true
	for pc, i := range code {
		if hasTarget(i.Op) {
			begins[i.Imm] = true
		}
		if isLast(i.Op) {
			begins[pc+1] = true
		}
	}
	numbers := make([]int, len(begins))
	for pc := 1; pc < len(begins); pc++ {
		numbers[pc] = numbers[pc-1]
		if begins[pc] {
			numbers[pc]++
		}
	}
	return numbers
}

// hasTarget tells whether an operation names an instruction.
func hasTarget(op api.FOp) bool { return op >= api.FJMP && op <= api.FBGE }

// isLast tells whether a row goes no further than an operation.
func isLast(op api.FOp) bool {
	switch op {
	case api.FHALT, api.FTRAP, api.FCALL, api.FRET, api.FGUARD:
		return true
	}
	return hasTarget(op)
}

// cut lays those steps behind one another that are in one row.
func cut(steps []step, numbers []int) []row {
	var rows []row
	for pc, n := range numbers {
		if n == len(rows) {
			rows = append(rows, row{first: pc})
		}
		rows[n].steps = append(rows[n].steps, steps[pc])
	}
	return rows
}
