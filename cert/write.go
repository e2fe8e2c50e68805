package cert

import "paddock/api"

// magic is what the bytes of each certificate begin with.
const magic = "PADCE1"

// written is the certificate that says all that is Live in a table. (It may be too long for one.)
func written(t api.Table) string {
	b := put([]byte(magic), uint8(len(t)))
	for gate := range len(t) {
		b = putRow(b, t[gate])
	}
	return string(b)
}

func putRow(b []byte, row []api.State) []byte {
	states := uint16(0)
	for pc := range len(row) {
		if row[pc].Live {
			states++
		}
	}
	b = put(b, states)
	for pc := range len(row) {
		if row[pc].Live {
			b = put(b, uint16(pc))
			b = putState(b, row[pc])
		}
	}
	return b
}

func putState(b []byte, s api.State) []byte {
	for _, r := range s.Regs {
		b = put(b, uint8(r.Kind))
		switch r.Kind {
		case api.AnInt:
			b = put(b, r.N.Lo, r.N.Hi)
		case api.ACap:
			b = put(b, r.Base.Lo, r.Base.Hi, r.End.Lo, r.End.Hi, r.Point.Lo, r.Point.Hi)
			b = put(b, r.Must, r.May)
			b = put(b, uint8(r.Seal+1))
		}
	}
	return b
}
