package tape_test

import (
	"slices"
	"testing"

	"paddock/api"
)

// byteStores is which steps wrote a byte.
type byteStores struct {
	addr uint64
	want []int
}

// TestStores: each kind of store by itself and over another one; a byte as the first, one in between and the last of them.
func TestStores(t *testing.T) {
	for _, c := range []struct {
		what, code string
		wants      []byteStores
	}{
		{"nothing stored", "lw r1 r8 0;lb r2 r8 3;lc r6 r9 0;halt r1", []byteStores{{0, nil}, {3, nil}, {64, nil}, {api.MaxMem - 1, nil}}},
		{"a byte", "li r1 5;sb r1 r8 3;halt r1", []byteStores{{2, nil}, {3, []int{2}}, {4, nil}, {11, nil}, {18, nil}}},
		{"the first byte", "sb r1 r8 0;halt r1", []byteStores{{0, []int{1}}, {1, nil}, {api.MaxMem - 1, nil}, {api.MaxMem, nil}, {top, nil}}},
		{"the last byte", "sb r1 r12 15;halt r1", []byteStores{{api.MaxMem - 2, nil}, {api.MaxMem - 1, []int{1}}, {api.MaxMem, nil}, {0, nil}}},
		{"eight bytes", "li r1 5;sw r1 r8 3;halt r1", []byteStores{{2, nil}, {3, []int{2}}, {4, []int{2}}, {7, []int{2}}, {10, []int{2}}, {11, nil}, {18, nil}}},
		{"the last eight", "sw r1 r12 8;halt r1", []byteStores{{api.MaxMem - 9, nil}, {api.MaxMem - 8, []int{1}}, {api.MaxMem - 1, []int{1}}, {api.MaxMem, nil}, {0, nil}}},
		{"sixteen bytes", "sc r10 r9 16;halt r1", []byteStores{{79, nil}, {80, []int{1}}, {87, []int{1}}, {88, []int{1}}, {95, []int{1}}, {96, nil}, {64, nil}}},
		{"the place beside it", "out r1;sc r10 r9 0;halt r1", []byteStores{{63, nil}, {64, []int{2}}, {79, []int{2}}, {80, nil}}},
		{"a byte twice", "sb r1 r8 3;sb r2 r8 3;halt r1", []byteStores{{3, []int{1, 2}}, {4, nil}}},
		{"eight bytes twice", "sw r1 r8 3;out r1;sw r2 r8 3;halt r1", []byteStores{{2, nil}, {3, []int{1, 3}}, {10, []int{1, 3}}, {11, nil}}},
		{"sixteen bytes twice", "sc r10 r9 0;sc r11 r9 0;halt r1", []byteStores{{63, nil}, {64, []int{1, 2}}, {79, []int{1, 2}}, {80, nil}}},
		{"eight bytes over eight", "sw r1 r8 3;sw r2 r8 7;halt r1", []byteStores{{3, []int{1}}, {6, []int{1}}, {7, []int{1, 2}}, {10, []int{1, 2}}, {11, []int{2}}, {14, []int{2}}, {15, nil}}},
		{"a byte over eight", "sw r1 r8 3;sb r1 r8 3;sb r1 r8 6;sb r1 r8 10;sb r1 r8 11;halt r1", []byteStores{{3, []int{1, 2}}, {4, []int{1}}, {6, []int{1, 3}}, {10, []int{1, 4}}, {11, []int{5}}}},
		{"eight over a byte", "sb r1 r8 3;sb r1 r8 6;sb r1 r8 10;sw r1 r8 3;halt r1", []byteStores{{3, []int{1, 4}}, {4, []int{4}}, {6, []int{2, 4}}, {10, []int{3, 4}}, {11, nil}}},
		{"noughts over noughts", "sw r0 r8 16;sb r0 r8 40;halt r1", []byteStores{{16, []int{1}}, {23, []int{1}}, {40, []int{2}}}},
		{"what was there", "lw r1 r8 0;sw r1 r8 0;lc r6 r9 0;lb r2 r8 1;sb r2 r8 1;sc r10 r9 0;sc r10 r9 0;halt r1", []byteStores{{0, []int{2}}, {1, []int{2, 5}}, {64, []int{6, 7}}, {79, []int{6, 7}}}},
		{"by a pointer", "li r1 9;cinc r2 r8 r1;cinci r2 r2 -4;sb r1 r2 -2;sw r1 r2 8;halt r1", []byteStores{{3, []int{4}}, {5, nil}, {13, []int{5}}, {20, []int{5}}, {21, nil}}},
		{"never come to", "jmp 2;sb r1 r8 3;halt r1", []byteStores{{3, nil}}},
		{"guarded ahead of it", "glt r1 0 5;sb r1 r8 3;halt r1", []byteStores{{3, nil}}},
	} {
		x := taped(t, c.code, 99)
		if o := x.Outcome(); o.End != api.Halted && o.End != api.Guarded {
			t.Errorf("21.2: %s: %+v", c.what, o)
		}
		for _, b := range c.wants {
			checkStores(t, c.what, x, b.addr, b.want...)
		}
		modelOf(t, run{m: alone(t, c.code), fuel: 99}).checkStores(t, c.what, x)
	}
}

// TestStoresAndFuel: a store that was not done any more is none, the last one that was is.
func TestStoresAndFuel(t *testing.T) {
	for fuel := range 14 {
		x := taped(t, counting, fuel, times(9, 7)...)
		var words, bytes []int
		for step := 1; step <= fuel; step++ {
			switch step % 5 {
			case 3:
				words = append(words, step)
				bytes = append(bytes, step)
			case 4:
				bytes = append(bytes, step)
			}
		}
		checkStores(t, "counting", x, 8, words...)
		checkStores(t, "counting", x, 14, words...)
		checkStores(t, "counting", x, 15, bytes...)
		checkStores(t, "counting", x, 16)
		checkStores(t, "counting", x, 7)
	}
}

// TestStoresNotInMemory: none, as far as can be, and where addresses would go round.
func TestStoresNotInMemory(t *testing.T) {
	x := taped(t, "sw r1 r12 8;sb r1 r8 0;sw r1 r8 0;halt r1", 99)
	for _, addr := range []uint64{api.MaxMem, api.MaxMem + 1, api.MaxMem + 7, 2*api.MaxMem - 1, 2 * api.MaxMem, 1 << 32, 1 << 63, top - 65535, top - 6, top} {
		checkStores(t, "not in memory", x, addr)
	}
}

// TestStoresAreNew: what is told may be written over, with its spare room, and is told again as it was; and no two lists share memory.
func TestStoresAreNew(t *testing.T) {
	r := run{m: alone(t, counting), inputs: times(30, 7), fuel: 140}
	x, m := recorded(t, r), modelOf(t, r)
	for range 3 {
		first, second := x.Stores(15), x.Stores(15)
		want := slices.Clone(second)
		spoil(first, 99)
		_ = append(first, 98)
		if !slices.Equal(second, want) {
			t.Fatalf("21.5: two lists share memory")
		}
		for addr := range uint64(20) {
			spoil(x.Stores(addr), 97)
		}
		m.checkStores(t, "written over", x)
	}
	m.checkEnd(t, "written over", x)
	m.checkPlaces(t, "written over", x, rising(m.len()), []uint64{8, 15})
	m.checkFinds(t, "written over", x, 1, 5)
}
