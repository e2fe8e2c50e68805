package image_test

import (
	"fmt"
	"math"
	"testing"

	"paddock/api"
	"paddock/image"
)

func TestCapOf(t *testing.T) {
	for _, c := range []struct {
		t      api.Type
		cursor uint64
		want   api.Cap
	}{
		{wide(), 77, api.Cap{Base: 0x0a0b0c0d, End: 0x0e0f1011, Cursor: 77, Perms: 0x6f, Seal: 5}},
		{wide(), 0, api.Cap{Base: 0x0a0b0c0d, End: 0x0e0f1011, Perms: 0x6f, Seal: 5}},
		{wide(), top, api.Cap{Base: 0x0a0b0c0d, End: 0x0e0f1011, Cursor: top, Perms: 0x6f, Seal: 5}},
		{api.Type{}, 0, api.Cap{}},
		{api.Type{}, 3, api.Cap{Cursor: 3}},
		{api.Type{Base: 9, End: 4, Lo: 3, Hi: 2, Perms: 255, Seal: -7}, 1, api.Cap{Base: 9, End: 4, Cursor: 1, Perms: 255, Seal: -7}},
		{api.Type{Cap: true, Base: top, End: top, Perms: 16, Seal: math.MaxInt}, 1, api.Cap{Base: top, End: top, Cursor: 1, Perms: 16, Seal: math.MaxInt}},
	} {
		if got := image.CapOf(c.t, c.cursor); got != c.want {
			t.Errorf("4.1: CapOf(%+v, %d) = %+v, want %+v", c.t, c.cursor, got, c.want)
		}
	}
}

func checkFits(t *testing.T, v api.Value, of api.Type, want bool) {
	t.Helper()
	if got := image.Fits(v, of); got != want {
		t.Errorf("4.2: Fits(%+v, %+v) = %v", v, of, got)
	}
}

func capability(c api.Cap) api.Value { return api.Value{Tag: true, C: c} }

func TestFitsIntegers(t *testing.T) {
	ints := api.Type{}
	checkFits(t, api.Value{N: 5}, ints, true)
	checkFits(t, api.Value{}, ints, true)
	checkFits(t, api.Value{N: top}, ints, true)
	checkFits(t, capability(api.Cap{}), ints, false)
	checkFits(t, capability(image.CapOf(wide(), wide().Lo)), ints, false)
	// Tag alone says which a value is, and Cap alone which a type is.
	checkFits(t, api.Value{N: 5, C: api.Cap{Base: 1, Seal: 4}}, ints, true)
	checkFits(t, api.Value{Tag: true, N: 5}, ints, false)
	checkFits(t, api.Value{N: 9}, api.Type{Base: 1, End: 2, Lo: 3, Hi: 4, Perms: 5, Seal: 6}, true)
	checkFits(t, capability(api.Cap{Base: 1, End: 2, Cursor: 3, Perms: 5, Seal: 6}), api.Type{Base: 1, End: 2, Lo: 3, Hi: 4, Perms: 5, Seal: 6}, false)
}

func TestFitsCapabilities(t *testing.T) {
	x := api.Type{Cap: true, Base: 16, End: 32, Lo: 18, Hi: 20, Perms: 3, Seal: 4}
	right := api.Cap{Base: 16, End: 32, Cursor: 18, Perms: 3, Seal: 4}
	checkFits(t, api.Value{}, x, false)
	checkFits(t, api.Value{N: 18}, x, false)
	checkFits(t, api.Value{C: right}, x, false)
	checkFits(t, api.Value{Tag: true, N: 99, C: right}, x, true)
	for cursor, want := range map[uint64]bool{0: false, 16: false, 17: false, 18: true, 19: true, 20: true, 21: false, 31: false, top: false} {
		c := right
		c.Cursor = cursor
		checkFits(t, capability(c), x, want)
	}
	for _, change := range []func(c *api.Cap){
		func(c *api.Cap) { c.Base = 15 }, func(c *api.Cap) { c.Base = 17 },
		func(c *api.Cap) { c.End = 31 }, func(c *api.Cap) { c.End = 33 },
		func(c *api.Cap) { c.Perms = 1 }, func(c *api.Cap) { c.Perms = 7 }, func(c *api.Cap) { c.Perms = 0 },
		func(c *api.Cap) { c.Seal = 0 }, func(c *api.Cap) { c.Seal = 3 }, func(c *api.Cap) { c.Seal = 5 },
	} {
		c := right
		change(&c)
		checkFits(t, capability(c), x, false)
	}
}

func TestFitsEnds(t *testing.T) {
	one := api.Type{Cap: true, Lo: top, Hi: top}
	checkFits(t, capability(api.Cap{Cursor: top}), one, true)
	checkFits(t, capability(api.Cap{Cursor: top - 1}), one, false)
	all := api.Type{Cap: true, Hi: top}
	none := api.Type{Cap: true, Lo: 5, Hi: 4}
	for _, cursor := range []uint64{0, 1, 4, 5, 1 << 32, 1 << 63, top} {
		checkFits(t, capability(api.Cap{Cursor: cursor}), all, true)
		checkFits(t, capability(api.Cap{Cursor: cursor}), none, false)
	}
	// What is not rightly built is of a type that is not right either.
	odd := api.Type{Cap: true, Base: 9, End: 3, Hi: 1, Perms: 255, Seal: -2}
	checkFits(t, capability(api.Cap{Base: 9, End: 3, Perms: 255, Seal: -2}), odd, true)
	checkFits(t, capability(api.Cap{Base: 9, End: 3, Cursor: 2, Perms: 255, Seal: -2}), odd, false)
}

func checkCode(t *testing.T, m api.Image, comp, pc int, want api.Cap, ok bool) {
	t.Helper()
	if got, gotOk := image.CodeCap(m, comp, pc); got != want || gotOk != ok {
		t.Errorf("4.5: CodeCap(.., %d, %d) = %+v, %v, want %+v, %v", comp, pc, got, gotOk, want, ok)
	}
}

func TestCodeCap(t *testing.T) {
	ten := api.Image{Comps: []api.Comp{{}, {Code: make([]api.Inst, 10)}}}
	checkCode(t, ten, 1, 2, api.Cap{Base: 1114112, End: 1114192, Cursor: 1114128, Perms: api.Exec}, true)
	checkCode(t, ten, 1, 0, api.Cap{Base: 1114112, End: 1114192, Cursor: 1114112, Perms: api.Exec}, true)
	checkCode(t, ten, 1, 9, api.Cap{Base: 1114112, End: 1114192, Cursor: 1114184, Perms: api.Exec}, true)
	checkCode(t, least(), 0, 0, api.Cap{Base: 1048576, End: 1048584, Cursor: 1048576, Perms: api.Exec}, true)
	checkCode(t, rich(), 0, 3, api.Cap{Base: 1048576, End: 1048608, Cursor: 1048600, Perms: api.Exec}, true)
	checkCode(t, rich(), 1, 1, api.Cap{Base: 1114112, End: 1114128, Cursor: 1114120, Perms: api.Exec}, true)
	// Neither six compartments nor 500 instructions are right.
	many := api.Image{Comps: make([]api.Comp, 6)}
	many.Comps[5].Code = make([]api.Inst, 500)
	checkCode(t, many, 5, 499, api.Cap{Base: 1376256, End: 1380256, Cursor: 1380248, Perms: api.Exec}, true)
}

func TestCodeCapOfWhatIsNotThere(t *testing.T) {
	ten := api.Image{Comps: []api.Comp{{}, {Code: make([]api.Inst, 10)}}}
	for _, place := range [][2]int{{0, 0}, {0, -1}, {1, 10}, {1, 11}, {1, -1}, {2, 0}, {3, 0}, {-1, 0}, {math.MinInt, 0}, {math.MaxInt, 0}, {1, math.MinInt}, {1, math.MaxInt}, {2, 10}, {-1, -1}} {
		checkCode(t, ten, place[0], place[1], api.Cap{}, false)
	}
	checkCode(t, api.Image{}, 0, 0, api.Cap{}, false)
	checkCode(t, rich(), 1, 2, api.Cap{}, false)
}

// typeCase is a type, and whether it is right.
type typeCase struct {
	t     api.Type
	right bool
}

func typeCases() []typeCase {
	return []typeCase{
		{api.Type{}, true},
		{api.Type{Base: 1}, false},
		{api.Type{End: 1}, false},
		{api.Type{Lo: 1}, false},
		{api.Type{Lo: 1, Hi: 1}, false},
		{api.Type{Hi: 5}, false},
		{api.Type{Perms: 1}, false},
		{api.Type{Seal: 1}, false},
		{api.Type{Seal: -1}, false},
		{api.Type{Cap: true}, true},
		{wide(), true},
		{api.Type{Cap: true, Base: 1}, false},
		{api.Type{Cap: true, Base: 1, End: 1}, true},
		{api.Type{Cap: true, Base: 2, End: 1}, false},
		{api.Type{Cap: true, Base: 1 << 32, End: 1 << 32}, true},
		{api.Type{Cap: true, End: 1<<32 + 1}, false},
		{api.Type{Cap: true, Base: top, End: top}, false},
		{api.Type{Cap: true, Lo: 5}, false},
		{api.Type{Cap: true, Lo: 5, Hi: 4}, false},
		{api.Type{Cap: true, Lo: 5, Hi: 5}, true},
		{api.Type{Cap: true, Lo: 5, Hi: 6}, true},
		{api.Type{Cap: true, Hi: top}, true},
		{api.Type{Cap: true, Lo: top, Hi: top}, true},
		{api.Type{Cap: true, Lo: top, Hi: top - 1}, false},
		{api.Type{Cap: true, Base: 16, End: 32, Lo: 1 << 40, Hi: 1 << 41}, true},
		{api.Type{Cap: true, Perms: api.Load | api.Store | api.LoadCap | api.StoreCap | api.Seal | api.Unseal}, true},
		{api.Type{Cap: true, Perms: api.Exec}, false},
		{api.Type{Cap: true, Perms: api.AllPerms}, false},
		{api.Type{Cap: true, Perms: 128}, false},
		{api.Type{Cap: true, Perms: 239}, false},
		{api.Type{Cap: true, Seal: 1}, true},
		{api.Type{Cap: true, Seal: api.MaxSeal}, true},
		{api.Type{Cap: true, Seal: api.MaxSeal + 1}, false},
		{api.Type{Cap: true, Seal: -1}, false},
		{api.Type{Cap: true, Seal: math.MaxInt}, false},
	}
}

func TestWhichTypesAreRight(t *testing.T) {
	for _, c := range typeCases() {
		for n := range api.MaxArgs {
			asArgument, asResult := least(), least()
			asArgument.Gates[0].Args = make([]api.Type, n+1)
			asArgument.Gates[0].Args[n] = c.t
			asResult.Gates[0].Results = make([]api.Type, n+1)
			asResult.Gates[0].Results[n] = c.t
			want := api.OK
			if !c.right {
				want = api.ErrType
			}
			checkRight(t, fmt.Sprintf("4.3: a gate with an argument %+v", c.t), asArgument, want)
			checkRight(t, fmt.Sprintf("4.3: a gate with a result %+v", c.t), asResult, want)
		}
		asSlot := least()
		asSlot.Regions = []api.Region{{Len: 16, Slots: []api.Slot{{Type: c.t, Cursor: c.t.Lo}}}}
		want := api.OK
		if !c.right || !c.t.Cap {
			want = api.ErrSlot
		}
		checkRight(t, fmt.Sprintf("4.3: a slot %+v", c.t), asSlot, want)
	}
}
