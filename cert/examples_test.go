package cert_test

import (
	"strings"
	"testing"

	"paddock/api"
	"paddock/cert"
)

// TestExample1: code that goes nowhere back.
func TestExample1(t *testing.T) {
	straight := "in r1;beq r1 r0 b;glt r1 32 9;b: cinc r2 r8 r1;lb r3 r2 0;halt r3"
	for _, n := range []int{1, 2, 9, api.MaxGates} {
		var gates []string
		for k := range n {
			gates = append(gates, string(rune('0'+k%2))+" int ->")
		}
		m := gated(t, straight, gates...)
		want := "PADCE1" + low(uint64(n), 1) + strings.Repeat("\x00\x00", n)
		checkMake(t, "example 1", m, want)
		for k := range want {
			for b := range 256 {
				s := want[:k] + low(uint64(b), 1) + want[k+1:]
				if s != want {
					checkNone(t, "example 1, another byte", m, s)
				}
			}
		}
	}
}

// TestExample1Dice: other bytes of that length.
func TestExample1Dice(t *testing.T) {
	m := gated(t, "li r1 1;halt r1", "0 ->", "0 ->", "1 ->")
	want := certificate(row(), row(), row())
	d := rolled(1)
	for range 20000 {
		b := []byte(want)
		for range 1 + d.IntN(len(b)) {
			b[d.IntN(len(b))] = of(d, 0, 0, 1, 2, 3, 255, byte(d.IntN(256)))
		}
		if string(b) != want {
			checkNone(t, "example 1, other bytes", m, string(b))
		}
	}
}

func TestExample2(t *testing.T) {
	m := alone(t, rounds)
	good := certificate(row(at(1, anyInt())))
	checkMake(t, "example 2", m, good)
	checkVerify(t, "example 2: r1 from 0 to 31", m, certificate(row(at(1, integer(0, 31)))), api.ErrProve, 0, 0)
	checkVerify(t, "example 2: r1 not known", m, certificate(row(at(1, nothing()))), api.ErrProve, 0, 1)
	checkVerify(t, "example 2: nothing said", m, certificate(row()), api.ErrProve, 0, 3)
	// Its bytes, one by one: the instruction, r0, r1, r2 to r7, r8, r9, r10 to r15.
	zero := "\x01" + strings.Repeat("\x00", 16)
	r1 := "\x01" + strings.Repeat("\x00", 8) + strings.Repeat("\xff", 8)
	r8 := "\x02" + strings.Repeat("\x00", 16) + strings.Repeat(" \x00\x00\x00\x00\x00\x00\x00", 2) + strings.Repeat("\x00", 16) + "\x03\x03\x01"
	r9 := "\x02" + strings.Repeat("@\x00\x00\x00\x00\x00\x00\x00", 2) + strings.Repeat("`\x00\x00\x00\x00\x00\x00\x00", 2) + strings.Repeat("@\x00\x00\x00\x00\x00\x00\x00", 2) + "\x0c\x0c\x01"
	want := "PADCE1" + "\x01" + "\x01\x00" + "\x01\x00" + zero + r1 + strings.Repeat(zero, 6) + r8 + r9 + strings.Repeat(zero, 6)
	if s, _ := cert.Make(m); s != want {
		t.Errorf("22.1: example 2: Make: %q, want %q", s, want)
	}
}
