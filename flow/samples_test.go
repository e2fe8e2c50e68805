package flow_test

import (
	"math"
	"math/rand/v2"
	"slices"
	"strconv"
	"strings"
	"testing"

	"paddock/api"
	"paddock/flow"
	"paddock/instr"
)

// code is the instructions of a text: a name (or a number, of what is no operation) and an Imm each, with " / " between.
func code(text string) []api.Inst {
	var l []api.Inst
	for _, part := range strings.Split(text, "/") {
		words := strings.Fields(part)
		if len(words) == 0 {
			continue
		}
		i := api.Inst{Op: instr.Find(words[0])}
		if n, err := strconv.Atoi(words[0]); err == nil {
			i.Op = api.Op(n)
		} else if i.Op == 0 {
			panic("no operation: " + words[0])
		}
		if len(words) > 1 {
			i.Imm = number(words[1])
		}
		l = append(l, i)
	}
	return l
}

// number is that of a word; least and most are the ends of what an int can be.
func number(word string) int {
	switch word {
	case "least":
		return math.MinInt
	case "most":
		return math.MaxInt
	}
	n, err := strconv.Atoi(word)
	if err != nil {
		panic(err)
	}
	return n
}

// list is the numbers of a text.
func list(text string) []int {
	var l []int
	for _, word := range strings.Fields(text) {
		l = append(l, number(word))
	}
	return l
}

// example is the code of the chapter's examples.
const example = "li / beq 4 / addi / jmp 1 / halt / ret"

// twoRounds goes back and forth: a round within another one, with a way into its middle, and a piece that nobody comes to.
const twoRounds = "beq 4 / li / bne 3 / jmp 5 / add / blt 2 / bge 1 / jmp 9 / jmp 8 / halt"

// places are those of the truths that hold.
func places(l []bool) []int {
	var at []int
	for k, holds := range l {
		if holds {
			at = append(at, k)
		}
	}
	return at
}

// told is rows as a text: "0-1: 2 3, 2-5:".
func told(rows []api.Block) string {
	var parts []string
	for _, r := range rows {
		part := strconv.Itoa(r.First) + "-" + strconv.Itoa(r.Last) + ":"
		for _, pc := range r.Next {
			part += " " + strconv.Itoa(pc)
		}
		parts = append(parts, part)
	}
	return strings.Join(parts, ", ")
}

func checkTruths(t *testing.T, what string, got []bool, size int, want []int) {
	t.Helper()
	if len(got) != size || !slices.Equal(places(got), want) {
		t.Errorf("%s: %d, of %d: %v, want %d, of %d", what, places(got), len(got), got, want, size)
	}
}

// asked holds a call of Dominates against what it must answer.
func asked(t *testing.T, c []api.Inst, a, b int, entries []int, want bool) {
	t.Helper()
	if got := flow.Dominates(c, a, b, entries...); got != want {
		t.Errorf("8.5: Dominates(%v, %d, %d, %d) = %t", c, a, b, entries, got)
	}
}

// dice makes code, the same in each run of the tests.
type dice struct{ *rand.Rand }

func rolled(seed uint64) dice { return dice{rand.New(rand.NewPCG(seed, 8))} }

// target is the number of an instruction, seldom of one that is not there.
func (d dice) target(size int) int {
	if d.IntN(16) == 0 {
		return []int{-1, size, -size, size + d.IntN(100), math.MinInt, math.MaxInt}[d.IntN(6)]
	}
	return d.IntN(max(size, 1))
}

// code has up to most instructions: of some codes most go straight on, of others most go elsewhere.
func (d dice) code(most int) []api.Inst {
	steering := []api.Op{api.JMP, api.BEQ, api.BNE, api.BLT, api.BGE, api.BEQ, api.BLT, api.HALT, api.TRAP, api.RET, api.CALL}
	l := make([]api.Inst, d.IntN(most+1))
	straight, wild := d.IntN(10), d.IntN(3) == 0
	for k := range l {
		l[k] = api.Inst{Op: api.Op(d.IntN(256)), A: d.IntN(16), B: d.IntN(16), C: d.IntN(16), Imm: d.target(len(l))}
		if d.IntN(10) >= straight {
			l[k].Op = steering[d.IntN(len(steering))]
		}
		// One that goes to all leaves little to find out.
		if l[k].Op == api.JC && !(wild && d.IntN(4) == 0) {
			l[k].Op = api.MOV
		}
	}
	return l
}

func (d dice) entries(size int) []int {
	l := make([]int, d.IntN(4))
	for k := range l {
		l[k] = d.target(size)
	}
	return l
}
