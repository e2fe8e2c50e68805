package link_test

import (
	"fmt"
	"slices"
	"strings"
	"testing"

	"paddock/api"
)

// TestNamesOfOthers: none that is not empty is there twice.
func TestNamesOfOthers(t *testing.T) {
	three := func(names string) api.Module {
		return module(t, "depth 1;comp;ret;gate g0 0 0 ->;gate g1 0 0 ->;gate g2 0 0 ->", names)
	}
	a, b := three("a0 a1 a2"), three("b0 - b2")
	linked(t, "names of their own", a, b)
	linked(t, "empty names", three("- - -"), three("- - -"), three("- - -"))
	for _, name := range []string{"a0", "a1", "a2", "b0", "b2"} {
		for _, names := range []string{"x0 x1 x2", "x0 - -", "- - -"} {
			for gate := range 3 {
				l := strings.Fields(names)
				l[gate] = name
				c := three(strings.Join(l, " "))
				checkNoLink(t, "a name of one ahead", api.ErrNeed, 2, a, b, c)
				checkNoLink(t, "a name of one ahead, twice", api.ErrNeed, 2, a, b, c, c)
			}
		}
	}
	linked(t, "big letters are others", a, three("A0 A1 A2"))
	checkNoLink(t, "the same module twice", api.ErrNeed, 1, a, a)
	// It does not matter whether anybody needs it, nor whether it is needed there.
	checkNoLink(t, "a name that is needed twice there", api.ErrNeed, 2, needy(t, "x"), plain(t, "x"), plain(t, "x"))
	linked(t, "a need is no name", needy(t, "x"), needy(t, "x"), plain(t, "x"))
}

// TestWhoHasIt: a need is one of what another one has.
func TestWhoHasIt(t *testing.T) {
	own := module(t, "depth 1;comp;ret;gate g0 0 0 ->;gate g1 0 0 ->", "x =x")
	p := func(name string) api.Module { return plain(t, name) }
	checkNoLink(t, "it has it itself alone", api.ErrNeed, 0, own)
	checkNoLink(t, "it has it itself alone, ahead of another", api.ErrNeed, 0, own, p("y"))
	checkNoLink(t, "it has it itself alone, behind another", api.ErrNeed, 1, p("y"), own)
	checkNoLink(t, "it and one behind", api.ErrNeed, 1, own, p("x"))
	checkNoLink(t, "it and one ahead", api.ErrNeed, 1, p("x"), own)
	checkNoLink(t, "two others behind", api.ErrNeed, 2, needy(t, "x"), p("x"), p("x"))
	checkNoLink(t, "two others ahead", api.ErrNeed, 1, p("x"), p("x"), needy(t, "x"))
	checkNoLink(t, "two others about", api.ErrNeed, 2, p("x"), needy(t, "x"), p("x"))
	linked(t, "one behind", needy(t, "x"), p("y"), p("x"))
	linked(t, "one ahead", p("x"), p("y"), needy(t, "x"))
	// A gate that stands for a name has it not.
	checkNoLink(t, "two needs and nobody", api.ErrNeed, 0, needy(t, "x"), needy(t, "x"))
	checkNoLink(t, "the first one counts", api.ErrNeed, 1, p("y"), needy(t, "x"), needy(t, "z"))
	checkNoLink(t, "a name is not its front", api.ErrNeed, 1, p("xy"), needy(t, "x"))
	checkNoLink(t, "small letters are others", api.ErrNeed, 0, needy(t, "x"), p("X"))
	checkNoLink(t, "the name of the gate that stands for it is none", api.ErrNeed, 0, needy(t, "x"), p("-"))
}

// TestEachNeedOfAModule: the first, a middle and the last one may be unmet, or unlike.
func TestEachNeedOfAModule(t *testing.T) {
	text := "depth 1;comp;ret;gate g0 0 0 ->;gate g1 0 0 int ->;gate g2 0 0 -> int"
	gives := module(t, text, "a b c")
	for gate := range 3 {
		m := module(t, text, "=a =b =c")
		linked(t, "three needs", m, gives)
		m.Needs[gate].Name = "nobody"
		checkNoLink(t, "one that nobody has", api.ErrNeed, 1, gives, m)
		for _, name := range []string{"a", "b", "c"} {
			if m.Needs[gate].Name = name; gate != slices.Index(gives.Names, name) {
				checkNoLink(t, "one of another gate's types", api.ErrMatch, 0, m, gives)
			}
		}
	}
	// Two needs of one name are asked each by itself.
	m := module(t, text, "=a =a =a")
	checkNoLink(t, "two needs of one name, one of its types", api.ErrMatch, 0, m, gives)
	m.Image.Gates[1].Args, m.Image.Gates[2].Results = nil, nil
	linked(t, "three needs of one name", m, gives)
	m.Image.Gates[2].Results = []api.Type{{}}
	checkNoLink(t, "three needs of one name, two of its types", api.ErrMatch, 1, gives, m)
}

// TestOtherTypes: arguments and results that differ in number, in order, in one part of a type.
func TestOtherTypes(t *testing.T) {
	c := api.Type{Cap: true, Base: 16, End: 64, Lo: 16, Hi: 32, Perms: 3, Seal: 4}
	i := api.Type{}
	lists := [][]api.Type{nil, {i}, {i, i}, {c}, {c, c}, {c, i}, {i, c}, {i, c, i}, {i, i, c}, {c, i, c, i, c, i, c}, {c, i, c, i, c, i}, slices.Repeat([]api.Type{i}, 7)}
	for _, turn := range []func(*api.Type){
		func(t *api.Type) { t.Base-- }, func(t *api.Type) { t.End++ }, func(t *api.Type) { t.Lo-- }, func(t *api.Type) { t.Hi++ },
		func(t *api.Type) { t.Perms ^= 1 }, func(t *api.Type) { t.Seal = 0 },
	} {
		d := c
		turn(&d)
		lists = append(lists, []api.Type{d}, []api.Type{i, d}, []api.Type{d, i})
	}
	for k, a := range lists {
		for n, b := range lists {
			for what, gates := range map[string][2]api.Gate{
				"arguments": {{Args: a, Results: lists[2]}, {Args: b, Results: lists[2]}},
				"results":   {{Args: lists[3], Results: a}, {Args: lists[3], Results: b}},
				"both":      {{Args: a, Results: b}, {Args: b, Results: a}},
			} {
				need, gives := needy(t, "x"), plain(t, "x")
				need.Image.Gates[1], gives.Image.Gates[0] = gates[0], gates[1]
				if k == n {
					linked(t, "the same "+what, need, gives)
					linked(t, "the same "+what, gives, need)
					continue
				}
				what = fmt.Sprintf("other %s, %d and %d", what, k, n)
				checkNoLink(t, what, api.ErrMatch, 0, need, gives)
				checkNoLink(t, what, api.ErrMatch, 1, gives, need)
				checkNoLink(t, what, api.ErrMatch, 2, plain(t, "p"), gives, need)
			}
		}
	}
}

// TestWhatIsNotMatched: of the two gates compartments and instructions may differ, and the other gates may be anything.
func TestWhatIsNotMatched(t *testing.T) {
	need := module(t, "depth 1;comp;ret;comp;ret;ret;gate g0 1 1 int ->;gate g1 0 0 int int -> int", "=x -")
	gives := module(t, "depth 1;comp;ret;comp;ret;gate g0 0 0 ->;gate g1 1 0 int ->", "y x")
	linked(t, "the gate that has the name", need, gives)
	gives.Names = []string{"x", "y"}
	checkNoLink(t, "the gate that has it not", api.ErrMatch, 0, need, gives)
}
