package link

import "paddock/api"

// numbering is what the numbers of one module become in the whole.
type numbering func(n int) int

// behind is the numbering of what stands behind so many others, all of it.
func behind(ahead int) numbering {
	return func(n int) int { return ahead + n }
}

// ownBehind is that of gates behind so many others, where those that stand for others are left out.
func ownBehind(ahead int, needs []api.Need) numbering {
	return func(gate int) int {
		n := ahead + gate
		for _, d := range needs {
			if d.Gate < gate {
				n--
			}
		}
		return n
	}
}

// calledBy is the numbering of gates as a CALL names them: what is needed stands in the place of what stands for it.
func calledBy(needs []api.Need, own numbering, named func(string) int) numbering {
	return func(gate int) int {
		if d, isNeed := needAt(needs, gate); isNeed {
			return named(d.Name)
		}
		return own(gate)
	}
}

func needAt(needs []api.Need, gate int) (api.Need, bool) {
	for _, d := range needs {
		if d.Gate == gate {
			return d, true
		}
	}
	return api.Need{}, false
}

// ownNumberings are those of the gates of each module.
func ownNumberings(l []api.Module) []numbering {
	var own []numbering
	ahead := 0
	for _, m := range l {
		own = append(own, ownBehind(ahead, m.Needs))
		ahead += ownGates(m)
	}
	return own
}
