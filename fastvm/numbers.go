package fastvm

// bits is how many bits a number has: how far a shift goes is meant modulo this.
const bits = 64

func (i inst) nop(m *Machine) { m.next() }

func (i inst) li(m *Machine) { m.lay(i.A, i.Imm) }

func (i inst) mov(m *Machine) { m.lay(i.A, m.b(i)) }

func (i inst) add(m *Machine) { m.lay(i.A, m.b(i)+m.c(i)) }

func (i inst) sub(m *Machine) { m.lay(i.A, m.b(i)-m.c(i)) }

func (i inst) mul(m *Machine) { m.lay(i.A, m.b(i)*m.c(i)) }

func (i inst) and(m *Machine) { m.lay(i.A, m.b(i)&m.c(i)) }

func (i inst) or(m *Machine) { m.lay(i.A, m.b(i)|m.c(i)) }

func (i inst) xor(m *Machine) { m.lay(i.A, m.b(i)^m.c(i)) }

func (i inst) shl(m *Machine) { m.lay(i.A, m.b(i)<<(m.c(i)%bits)) }

func (i inst) shr(m *Machine) { m.lay(i.A, m.b(i)>>(m.c(i)%bits)) }

func (i inst) addi(m *Machine) { m.lay(i.A, m.b(i)+i.Imm) }

func (i inst) slt(m *Machine) { m.lay(i.A, told(m.b(i) < m.c(i))) }

func (i inst) seq(m *Machine) { m.lay(i.A, told(m.b(i) == m.c(i))) }

// told is an answer as a number.
func told(yes bool) uint64 {
	if yes {
		return 1
	}
	return 0
}
