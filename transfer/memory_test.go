package transfer_test

import (
	"testing"

	"paddock/api"
	"paddock/transfer"
)

// all is a capability for all of memory and more, that points from lo to hi.
func all(lo, hi uint64) api.RType {
	return capability(0, 1<<32, lo, hi, api.AllPerms, 0)
}

func TestLoadsBytes(t *testing.T) {
	checkGoing(t, "10.7", []going{
		lays("lb r1 r8 0", nil, integer(0, 255)),
		lays("lb r1 r8 3", nil, integer(0, 255)),
		lays("lb r1 r8 31", nil, integer(0, 255)),
		lays("lb r8 r8 31", nil, integer(0, 255)),
		lays("lb r1 r2 -4", regs{2: capability(0, 32, 4, 4, rw, 0)}, integer(0, 255)),
		lays("lb r1 r2 0", regs{2: capability(0, 32, 16, 31, rw, 0)}, integer(0, 255)),
		lays("lb r1 r2 0", regs{2: but(root(), func(r *api.RType) { r.Must, r.May = api.Load, api.AllPerms })}, integer(0, 255)),
		lays("lb r1 r2 0", regs{2: wide(8, 15)}, integer(0, 255)),
		lays("lb r1 r2 0", regs{2: all(80, 111)}, integer(0, 255)),
		lays("lw r1 r8 0", nil, integer(0, top)),
		lays("lw r1 r8 8", nil, integer(0, top)),
		lays("lw r1 r8 24", nil, integer(0, top)),
		lays("lw r1 r2 3", regs{2: all(80, 101)}, integer(0, top)),
		lays("lw r1 r2 -32", regs{2: all(112, 136)}, integer(0, top)),
	})
	checkRefusals(t, "10.7", []refusal{
		{"lb r1 r2 0", nil, api.RCap},
		{"lb r1 r2 0", regs{2: nothing()}, api.RCap},
		{"lb r1 r2 0", regs{2: sealed(root(), 1)}, api.RSeal},
		{"lb r1 r2 0", regs{2: sealed(root(), -1)}, api.RSeal},
		{"lb r1 r2 0", regs{2: capability(0, 32, 0, 0, api.AllPerms&^api.Load, 0)}, api.RPerm},
		{"lb r1 r2 0", regs{2: but(root(), func(r *api.RType) { r.Must = api.Store })}, api.RPerm},
		{"lw r1 r2 0", regs{2: capability(0, 32, 0, 0, api.AllPerms&^api.Load, 0)}, api.RPerm},
		{"lw r1 r2 0", nil, api.RCap},
		{"lw r1 r2 0", regs{2: sealed(root(), 1)}, api.RSeal},
		{"lb r1 r8 32", nil, api.RBounds},
		{"lb r1 r8 -1", nil, api.RBounds},
		{"lb r1 r2 -5", regs{2: capability(0, 32, 4, 9, rw, 0)}, api.RBounds},
		{"lb r1 r2 0", regs{2: capability(8, 32, 7, 9, rw, 0)}, api.RBounds},
		{"lw r1 r8 25", nil, api.RBounds},
		{"lw r1 r2 0", regs{2: capability(0, 32, 0, 25, rw, 0)}, api.RBounds},
		{"lb r1 r2 0", regs{2: wide(7, 15)}, api.RBounds},
		{"lb r1 r2 0", regs{2: wide(16, 24)}, api.RBounds},
	})
}

// TestRegionsOfBytes: one of them must have all bytes that may be meant; two side by side do not do.
func TestRegionsOfBytes(t *testing.T) {
	checkGoing(t, "10.7", []going{
		leaves("sb r1 r8 0", nil),
		leaves("sb r1 r8 15", nil),
		leaves("sb r1 r8 16", nil),
		leaves("sb r0 r2 0", regs{2: all(80, 80)}),
		leaves("sw r1 r2 0", regs{2: all(80, 104)}),
	})
	checkRefusals(t, "10.7", []refusal{
		{"lb r1 r2 0", regs{2: all(15, 16)}, api.RBytes},
		{"lb r1 r2 0", regs{2: all(0, 31)}, api.RBytes},
		{"lw r1 r8 9", nil, api.RBytes},
		{"lw r1 r8 15", nil, api.RBytes},
		{"sw r1 r8 9", nil, api.RBytes},
		{"lb r1 r2 0", regs{2: all(31, 32)}, api.RBytes},
		{"lb r1 r2 0", regs{2: all(32, 32)}, api.RBytes},
		{"lb r1 r2 0", regs{2: all(40, 40)}, api.RBytes},
		{"lb r1 r2 0", regs{2: all(48, 48)}, api.RBytes},
		{"lb r1 r2 0", regs{2: all(79, 79)}, api.RBytes},
		{"lb r1 r2 0", regs{2: all(79, 80)}, api.RBytes},
		{"lb r1 r2 0", regs{2: all(111, 112)}, api.RBytes},
		{"lw r1 r2 0", regs{2: all(80, 105)}, api.RBytes},
		{"lw r1 r2 0", regs{2: all(72, 72)}, api.RBytes},
		{"sb r1 r2 0", regs{2: all(112, 112)}, api.RBytes},
		{"sw r1 r2 0", regs{2: all(48, 48)}, api.RBytes},
		{"sb r1 r2 0", regs{2: all(0, 1<<32-1)}, api.RBytes},
	})
	m := yard(inst("lb r1 r8 0"))
	m.Regions = nil
	checkStep(t, "10.7: no regions", transfer.Do(m, inner, at, ahead(nil)), refused(api.RBytes))
	// Of regions that are not right the first that does is enough, wherever it stands.
	m.Regions = []api.Region{{Base: 1, Len: 99}, {}, {Len: 32, Slots: []api.Slot{{}, {}}}, {Len: 1}}
	checkStep(t, "10.7: the last region", transfer.Do(m, inner, at, ahead(nil)), api.Step{Next: []api.Succ{succ(at+1, regs{1: integer(0, 255)})}})
	m.Regions[3].Slots = []api.Slot{{}}
	checkStep(t, "10.7: regions of slots", transfer.Do(m, inner, at, ahead(nil)), refused(api.RBytes))
}

func TestStores(t *testing.T) {
	checkGoing(t, "10.7", []going{
		leaves("sb r1 r8 3", nil),
		leaves("sw r1 r8 24", nil),
		leaves("sb r1 r2 0", regs{1: integer(0, top), 2: but(root(), func(r *api.RType) { r.Must, r.May = api.Store, rw })}),
	})
	for _, op := range []string{"sb", "sw"} {
		checkRefusals(t, "10.7", []refusal{
			{op + " r8 r8 0", nil, api.RInt},
			{op + " r8 r2 0", nil, api.RInt},
			{op + " r1 r8 0", regs{1: nothing()}, api.RInt},
			{op + " r1 r2 0", nil, api.RCap},
			{op + " r1 r2 0", regs{2: nothing()}, api.RCap},
			{op + " r1 r2 0", regs{2: sealed(root(), 3)}, api.RSeal},
			{op + " r1 r2 0", regs{2: capability(0, 32, 0, 0, api.AllPerms&^api.Store, 0)}, api.RPerm},
			{op + " r1 r2 0", regs{2: but(root(), func(r *api.RType) { r.Must = api.Load })}, api.RPerm},
			{op + " r1 r8 32", nil, api.RBounds},
			{op + " r1 r8 -1", nil, api.RBounds},
			// The first Reason counts.
			{op + " r8 r2 0", regs{2: sealed(capability(0, 32, 99, 99, 0, 0), 3)}, api.RInt},
			{op + " r1 r2 0", regs{2: sealed(capability(0, 32, 99, 99, 0, 0), 3)}, api.RSeal},
			{op + " r1 r2 0", regs{2: capability(0, 32, 99, 99, 0, 0)}, api.RPerm},
			{op + " r1 r2 0", regs{2: capability(0, 32, 99, 99, rw, 0)}, api.RBounds},
		})
	}
	checkRefusals(t, "10.7", []refusal{{"sw r1 r8 25", nil, api.RBounds}})
}

// TestSumsDoNotGoRound: where the machine's address would, it is RBounds; and regions end where whole numbers say.
func TestSumsDoNotGoRound(t *testing.T) {
	huge := func(lo, hi uint64) api.RType { return capability(0, top, lo, hi, api.AllPerms, 0) }
	checkRefusals(t, "10.7", []refusal{
		{"lb r1 r2 1", regs{2: capability(0, 32, top, top, rw, 0)}, api.RBounds},
		{"lb r1 r2 1", regs{2: huge(top, top)}, api.RBounds},
		{"lb r1 r2 0", regs{2: huge(top, top)}, api.RBounds},
		{"lb r1 r2 2147483647", regs{2: huge(top-5, top-5)}, api.RBounds},
		{"lb r1 r2 16", regs{2: huge(top-8, top-8)}, api.RBounds},
		{"lw r1 r2 0", regs{2: huge(top-7, top-7)}, api.RBounds},
		{"lb r1 r2 0", regs{2: huge(0, top)}, api.RBounds},
		{"lb r1 r2 -2147483648", regs{2: huge(2147483647, 2147483648)}, api.RBounds},
		{"lb r1 r2 -1", regs{2: capability(0, top, 0, 5, rw, 0)}, api.RBounds},
		{"lb r1 r2 0", regs{2: capability(5, 3, 4, 4, rw, 0)}, api.RBounds},
		{"lc r1 r2 16", regs{2: huge(top-15, top-15)}, api.RBounds},
		{"lc r1 r2 -16", regs{2: huge(0, 0)}, api.RBounds},
		{"lb r1 r2 0", regs{2: huge(top-1, top-1)}, api.RBytes},
	})
	m := yard(inst("lb r1 r2 -1"))
	fine := func(lo, hi uint64) {
		t.Helper()
		r := regs{2: huge(lo, hi)}
		checkStep(t, "10.7: a region beyond 2^64", transfer.Do(m, inner, at, ahead(r)), api.Step{Next: []api.Succ{succ(at+1, with(r, 1, integer(0, 255)))}})
	}
	refuses := func(lo, hi uint64) {
		t.Helper()
		checkStep(t, "10.7: a region beyond 2^64", transfer.Do(m, inner, at, ahead(regs{2: huge(lo, hi)})), refused(api.RBytes))
	}
	m.Regions = []api.Region{{Base: top - 15, Len: 64}}
	fine(top-14, top)
	refuses(top-15, top)
	refuses(9, 9)
	m.Regions = []api.Region{{Base: 1, Len: top}}
	fine(2, top)
	refuses(1, 1)
	m.Regions = []api.Region{{Base: 0, Len: top}}
	fine(1, top)
}

func TestLoadsCapabilities(t *testing.T) {
	slots := func(lo, hi uint64) regs { return regs{2: capability(48, 80, lo, hi, api.LoadCap|api.StoreCap, 0)} }
	first, second := capability(0, 32, 0, 16, rw, 0), capability(8, 16, 3, 9, 0, 2)
	checkGoing(t, "10.7", []going{
		lays("lc r1 r2 0", slots(48, 48), first),
		lays("lc r2 r2 0", slots(48, 48), first),
		lays("lc r1 r2 16", slots(48, 48), second),
		lays("lc r1 r2 -16", slots(64, 64), first),
		lays("lc r1 r2 7", slots(57, 57), second),
		lays("lc r1 r2 -32", slots(80, 80), first),
		lays("lc r1 r2 0", regs{2: but(wide(48, 48), func(r *api.RType) { r.End, r.Must, r.May = s(64, 99), api.LoadCap, api.AllPerms })}, first),
	})
	for _, op := range []string{"lc", "sc"} {
		checkRefusals(t, "10.7", []refusal{
			{op + " r1 r2 0", nil, api.RCap},
			{op + " r1 r2 0", regs{2: nothing()}, api.RCap},
			{op + " r1 r2 0", regs{2: sealed(all(48, 48), 1)}, api.RSeal},
			{op + " r1 r2 0", regs{2: sealed(all(48, 48), -1)}, api.RSeal},
			{op + " r1 r8 0", nil, api.RPerm},
			{op + " r1 r2 0", slots(47, 48), api.RBounds},
			{op + " r1 r2 0", slots(65, 65), api.RBounds},
			{op + " r1 r2 -1", slots(48, 48), api.RBounds},
			{op + " r1 r2 17", slots(48, 48), api.RBounds},
			{op + " r1 r2 0", slots(48, 64), api.RSlot},
			{op + " r1 r2 0", slots(48, 49), api.RSlot},
			{op + " r1 r2 0", slots(49, 50), api.RSlot},
			{op + " r1 r2 0", slots(49, 49), api.RAlign},
			{op + " r1 r2 8", slots(48, 48), api.RAlign},
			{op + " r1 r2 15", slots(48, 48), api.RAlign},
			{op + " r1 r2 0", regs{2: all(40, 40)}, api.RAlign},
			{op + " r1 r2 0", regs{2: all(80, 80)}, api.RSlot},
			{op + " r1 r2 0", regs{2: all(32, 32)}, api.RSlot},
			{op + " r1 r2 0", regs{2: all(0, 0)}, api.RSlot},
			{op + " r1 r2 0", regs{2: all(160, 160)}, api.RSlot},
			// The first Reason counts.
			{op + " r1 r2 0", regs{2: sealed(capability(48, 80, 1, 3, 0, 0), 1)}, api.RSeal},
			{op + " r1 r2 0", regs{2: capability(48, 80, 1, 3, 0, 0)}, api.RPerm},
			{op + " r1 r2 1", slots(79, 80), api.RBounds},
		})
	}
	checkRefusals(t, "10.7", []refusal{
		{"lc r1 r2 0", regs{2: capability(48, 80, 48, 48, api.AllPerms&^api.LoadCap, 0)}, api.RPerm},
		{"sc r8 r2 0", regs{2: capability(48, 80, 48, 48, api.AllPerms&^api.StoreCap, 0)}, api.RPerm},
	})
}

func TestStoresCapabilities(t *testing.T) {
	store := func(a api.RType, point uint64) regs {
		return regs{1: a, 2: capability(48, 80, point, point, api.StoreCap, 0)}
	}
	first, second := capability(0, 32, 0, 16, rw, 0), capability(8, 16, 3, 9, 0, 2)
	checkGoing(t, "10.7", []going{
		leaves("sc r1 r2 0", store(first, 48)),
		leaves("sc r1 r2 0", store(root(), 48)),
		leaves("sc r1 r2 16", store(second, 48)),
		leaves("sc r1 r2 0", store(capability(8, 16, 4, 4, 0, 2), 64)),
	})
	checkRefusals(t, "10.7", []refusal{
		{"sc r1 r2 0", store(second, 48), api.RSlot},
		{"sc r1 r2 0", store(first, 64), api.RSlot},
		{"sc r1 r2 0", store(capability(0, 32, 0, 17, rw, 0), 48), api.RSlot},
		{"sc r1 r2 0", store(capability(8, 16, 2, 9, 0, 2), 64), api.RSlot},
		{"sc r1 r2 0", store(sealed(first, -1), 48), api.RSlot},
		{"sc r1 r2 0", store(capability(0, 32, 0, 16, api.Load, 0), 48), api.RSlot},
		{"sc r1 r2 0", store(integer(0, 0), 48), api.RSlot},
		{"sc r1 r2 0", store(nothing(), 48), api.RSlot},
	})
}

// TestOddSlots: of programs that are not right. Slots lie by the Base alone, whatever Len is; the first of several counts.
func TestOddSlots(t *testing.T) {
	first, second := capability(0, 32, 0, 16, rw, 0), capability(8, 16, 3, 9, 0, 2)
	slot := func(l ...api.Type) []api.Slot {
		var slots []api.Slot
		for _, x := range l {
			slots = append(slots, api.Slot{Type: x})
		}
		return slots
	}
	for _, c := range []struct {
		regions []api.Region
		at      uint64
		why     api.Reason
		has     api.RType
	}{
		{[]api.Region{{Base: 48, Slots: slot(firstSlot())}, {Base: 32, Slots: slot(api.Type{}, secondSlot())}}, 48, api.Fine, first},
		{[]api.Region{{Base: 32, Slots: slot(api.Type{}, secondSlot())}, {Base: 48, Slots: slot(firstSlot())}}, 48, api.Fine, second},
		{[]api.Region{{Base: 32, Slots: slot(api.Type{})}, {Base: 48, Slots: slot(firstSlot())}}, 48, api.Fine, first},
		{[]api.Region{{Base: 40, Slots: slot(secondSlot(), secondSlot())}, {Base: 48, Slots: slot(firstSlot())}}, 48, api.Fine, first},
		{[]api.Region{{Base: 48, Len: 64}, {Base: 64, Slots: slot(secondSlot())}, {Base: 48, Slots: slot(firstSlot())}}, 48, api.Fine, first},
		{[]api.Region{{Base: 48, Len: 0, Data: "data", Slots: slot(firstSlot(), secondSlot())}}, 64, api.Fine, second},
		{[]api.Region{{Base: 48, Slots: slot(api.Type{Seal: 99})}}, 48, api.Fine, integer(0, top)},
		{[]api.Region{{Base: 48, Slots: slot(api.Type{Cap: true, Lo: 1})}}, 48, api.Fine, nothing()},
		{[]api.Region{{Base: 40, Slots: slot(firstSlot(), firstSlot())}}, 48, api.RSlot, nothing()},
		{[]api.Region{{Base: 48, Len: 64}}, 48, api.RSlot, nothing()},
		{[]api.Region{{Base: 48, Len: 64, Slots: slot(firstSlot())}}, 64, api.RSlot, nothing()},
		{[]api.Region{{Base: top - 15, Slots: slot(firstSlot(), firstSlot(), firstSlot())}}, 0, api.RSlot, nothing()},
		{[]api.Region{{Base: top - 15, Slots: slot(firstSlot(), firstSlot(), firstSlot())}}, 16, api.RSlot, nothing()},
		{[]api.Region{{Base: top - 31, Slots: slot(firstSlot(), firstSlot())}}, top - 31, api.Fine, first},
		{nil, 48, api.RSlot, nothing()},
	} {
		m := yard(inst("lc r1 r2 0"))
		m.Regions = c.regions
		r := regs{2: capability(0, top, c.at, c.at, api.AllPerms, 0)}
		want := refused(c.why)
		if c.why == api.Fine {
			want.Next = []api.Succ{succ(at+1, with(r, 1, c.has))}
		}
		checkStep(t, "10.7: an odd slot", transfer.Do(m, inner, at, ahead(r)), want)
	}
	// What is stored must be of the first one's type.
	m := yard(inst("sc r1 r2 0"))
	m.Regions = []api.Region{{Base: 48, Slots: slot(firstSlot())}, {Base: 48, Slots: slot(secondSlot())}, {Base: 64, Slots: slot(api.Type{})}}
	r := regs{1: first, 2: all(48, 48)}
	checkStep(t, "10.7: SC, the first slot", transfer.Do(m, inner, at, ahead(r)), api.Step{Next: []api.Succ{succ(at+1, r)}})
	checkStep(t, "10.7: SC, the second slot", transfer.Do(m, inner, at, ahead(with(r, 1, second))), refused(api.RSlot))
	r = regs{1: integer(0, 9), 2: all(64, 64)}
	checkStep(t, "10.7: SC of an integer", transfer.Do(m, inner, at, ahead(r)), api.Step{Next: []api.Succ{succ(at+1, r)}})
}
