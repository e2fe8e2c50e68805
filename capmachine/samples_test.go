package capmachine_test

import (
	"maps"
	"reflect"
	"slices"
	"strings"
	"testing"

	"paddock/api"
	"paddock/asm"
	"paddock/capmachine"
)

const top = ^uint64(0)

// yard is what stands ahead of the code of most programs here. The integers r1, r2 and r3 are arguments; the roots are one of each kind that an instruction may need, or may not like.
const yard = `depth 2
region 0 32 bytes #01020304050607080910
region 64 48 slots
  slot cap 0 32 0 40 rw 0 at 4
  slot cap 0 32 0 40 rw 0 at 40
  slot cap 0 16 0 15 r 7 at 2
comp
  root r8 0 32 4 rw 0            ; bytes
  root r9 64 112 64 rwcd 0       ; slots
  root r10 1 8 5 su 0            ; a key for seals
  root r11 0 32 4 rw 5           ; bytes, sealed by that key
  root r12 0 4294967296 0 rwcd 0 ; goes beyond memory
  root r13 0 32 4 - 0            ; bytes, for nothing
  root r14 1 8 5 u 5             ; a key, sealed
  root r15 0 32 40 rw 0          ; points beyond its end
`

const mainGate = "gate main 0 0 int int int ->\n"

// parsed is the program of a text.
func parsed(t *testing.T, text string) api.Image {
	t.Helper()
	m, e, line := asm.Parse(text)
	if e != api.OK {
		t.Fatalf("a text is wrong in line %d: %d\n%s", line, e, text)
	}
	return m
}

// inYard is the yard's program with this code.
func inYard(t *testing.T, code ...string) api.Image {
	t.Helper()
	return parsed(t, yard+strings.Join(code, "\n")+"\n"+mainGate)
}

func begin(t *testing.T, m api.Image, gate int, args, inputs []uint64) *capmachine.Machine {
	t.Helper()
	x, e := capmachine.New(m, gate, args, inputs)
	if x == nil || e != api.OK {
		t.Fatalf("7.1: New: %v, %d, want a machine and OK", x, e)
	}
	return x
}

func holding(c api.Cap) api.Value { return api.Value{Tag: true, C: c} }

func integer(n uint64) api.Value { return api.Value{N: n} }

// The roots of the yard.
var (
	inBytes  = api.Cap{Base: 0, End: 32, Cursor: 4, Perms: api.Load | api.Store}
	inSlots  = api.Cap{Base: 64, End: 112, Cursor: 64, Perms: api.Load | api.Store | api.LoadCap | api.StoreCap}
	key      = api.Cap{Base: 1, End: 8, Cursor: 5, Perms: api.Seal | api.Unseal}
	closed   = api.Cap{Base: 0, End: 32, Cursor: 4, Perms: api.Load | api.Store, Seal: 5}
	far      = api.Cap{Base: 0, End: 1 << 32, Cursor: 0, Perms: api.Load | api.Store | api.LoadCap | api.StoreCap}
	useless  = api.Cap{Base: 0, End: 32, Cursor: 4}
	shutKey  = api.Cap{Base: 1, End: 8, Cursor: 5, Perms: api.Unseal, Seal: 5}
	pastEnd  = api.Cap{Base: 0, End: 32, Cursor: 40, Perms: api.Load | api.Store}
	yardCaps = []api.Cap{inBytes, inSlots, key, closed, far, useless, shutKey, pastEnd}
)

// look is all that can be seen of a machine.
type look struct {
	snap    api.Snap
	out     []uint64
	touches []api.Touch
	bytes   string
	caps    map[uint64]api.Cap
}

func lookAt(x *capmachine.Machine) look {
	l := look{snap: x.Snap(), out: x.Out(), touches: x.Touches(), bytes: x.Memory().Bytes(), caps: map[uint64]api.Cap{}}
	for _, at := range x.Memory().Tags() {
		v, _ := x.Memory().LoadCap(at)
		l.caps[at] = v.C
	}
	return l
}

// same holds all against all; a list without elements may be nil or not.
func (l look) same(o look) bool {
	return l.snap == o.snap && slices.Equal(l.out, o.out) && slices.Equal(l.touches, o.touches) && l.bytes == o.bytes && maps.Equal(l.caps, o.caps)
}

// unlike tells, for a message, what of two looks is not the same.
func (l look) unlike(o look) []any {
	var parts []any
	for _, p := range []struct {
		name      string
		got, want any
	}{
		{"snap", l.snap, o.snap}, {"out", l.out, o.out}, {"touches", l.touches, o.touches}, {"caps", l.caps, o.caps},
	} {
		if !reflect.DeepEqual(p.got, p.want) {
			parts = append(parts, p.name, p.got, "want", p.want)
		}
	}
	for at := range min(len(l.bytes), len(o.bytes)) {
		if l.bytes[at] != o.bytes[at] {
			return append(parts, "the byte at", at, l.bytes[at], "want", o.bytes[at])
		}
	}
	return parts
}

func checkLook(t *testing.T, what string, x *capmachine.Machine, want look) {
	t.Helper()
	if got := lookAt(x); !got.same(want) {
		t.Errorf("%s: %v", what, got.unlike(want))
	}
}

func checkOutcome(t *testing.T, what string, got, want api.Outcome) {
	t.Helper()
	if got != want {
		t.Errorf("%s: %+v, want %+v", what, got, want)
	}
}

// checkOver asks a machine whose run is over again and again: it answers the same, and nothing changes any more.
func checkOver(t *testing.T, what string, x *capmachine.Machine, want api.Outcome) {
	t.Helper()
	before := lookAt(x)
	for range 2 {
		checkOutcome(t, "7.2: "+what+", asked again", x.Step(), want)
		for _, fuel := range []int{-1, 0, 1, 1000} {
			checkOutcome(t, "7.4: "+what+", run again", x.Run(fuel), want)
		}
	}
	checkLook(t, "7.3: "+what+", asked again", x, before)
}

// toThe steps over what stands ahead of an instruction.
func toThe(t *testing.T, x *capmachine.Machine, pc int) {
	t.Helper()
	for x.Snap().Pc < pc {
		if o := x.Step(); o.End != api.Running {
			t.Fatalf("it is over ahead of the instruction %d: %+v", pc, o)
		}
	}
}

// lines are a text's lines.
func lines(s string) []string {
	if s == "" {
		return nil
	}
	return strings.Split(s, " / ")
}
