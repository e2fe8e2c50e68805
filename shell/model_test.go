package shell_test

import (
	"fmt"
	"math/big"
	"regexp"
	"strings"

	"paddock/api"
	"paddock/asm"
	"paddock/bound"
	"paddock/capmachine"
	"paddock/cert"
	"paddock/checker"
	"paddock/erase"
	"paddock/image"
	"paddock/lang"
	"paddock/link"
	"paddock/reach"
	"paddock/sandbox"
	"paddock/tape"
	"paddock/thread"
	"paddock/trim"
)

// The model does what a script says anew, by the words of the chapter alone: regular expressions for all that it reads, fmt for all that it tells.

var (
	token = regexp.MustCompile(`[^ \t]+`)
	right = regexp.MustCompile(`^([a-zA-Z][a-zA-Z0-9_]{0,15}|[0-9]{1,20}|#([0-9a-f][0-9a-f])*|:|=)$`)
	forms = makeForms()
)

// makeForms are the forms of 24.2, with a name for each place.
func makeForms() []*regexp.Regexp {
	name := `[a-zA-Z][a-zA-Z0-9_]{0,15}`
	running := ` A G(?P<V>( [0-9]+)*) :(?P<I>( [0-9]+)*) fuel F`
	var l []*regexp.Regexp
	for _, form := range []string{
		`program N`, `source N`, `load N (?P<D>#[0-9a-f]*)`, `name A G W`, `need A G W`,
		`link N =(?P<B>( ` + name + `)+)`, `trim N = A`, `print A`, `bytes A`, `check A`, `cost A G`, `grant A G`, `cert A`,
		`run` + running, `slow` + running, `back` + running + ` at K`,
	} {
		for _, letter := range []string{"N", "A", "W"} {
			form = strings.Replace(form, " "+letter, " (?P<"+letter+">"+name+")", 1)
		}
		for _, letter := range []string{"G", "F", "K"} {
			form = regexp.MustCompile(` `+letter+`\b`).ReplaceAllString(form, " (?P<"+letter+">[0-9]+)")
		}
		l = append(l, regexp.MustCompile("^"+form+"$"))
	}
	return l
}

type shellModel struct {
	at   map[string]api.Module
	told []string
}

// model is what Do has to tell.
func model(script string) string {
	if len(script) > api.MaxScript {
		return "error 50\n"
	}
	s := shellModel{at: map[string]api.Module{}}
	s.script(strings.Split(script, "\n"))
	return s.answer()
}

// answer is 24.10.
func (s *shellModel) answer() string {
	whole := strings.Join(s.told, "")
	if len(whole) <= api.MaxAnswer {
		return whole
	}
	kept := ""
	for _, line := range s.told {
		if len(kept+line+"cut\n") > api.MaxAnswer {
			break
		}
		kept += line
	}
	return kept + "cut\n"
}

func (s *shellModel) tell(form string, words ...any) {
	s.told = append(s.told, strings.SplitAfter(strings.TrimRight(fmt.Sprintf(form, words...), " ")+"\n", "\n")...)
	s.told = s.told[:len(s.told)-1]
}

func tokensOf(line string) []string {
	if k := strings.IndexByte(line, ';'); k >= 0 {
		line = line[:k]
	}
	return token.FindAllString(line, -1)
}

func (s *shellModel) script(l []string) {
	n := 0
	for len(l) > 0 {
		tokens := tokensOf(l[0])
		l = l[1:]
		if len(tokens) == 0 {
			continue
		}
		n++
		if n == 65 {
			s.tell("error 42")
			return
		}
		text, open := "", false
		if tokens[0] == "program" || tokens[0] == "source" {
			text, l, open = blockOf(l)
		}
		s.command(tokens, text, open)
	}
}

// blockOf are the lines up to the one that ends a block, and those behind that.
func blockOf(l []string) (string, []string, bool) {
	text := ""
	for k, line := range l {
		if tokens := tokensOf(line); len(tokens) == 1 && tokens[0] == "end" {
			return text, l[k+1:], false
		}
		text += line + "\n"
	}
	return "", nil, true
}

// asked is what a command asks, by the names of the places.
type asked struct {
	word  string
	token map[string]string
}

func formOf(tokens []string) (asked, bool) {
	for _, form := range forms {
		if l := form.FindStringSubmatch(strings.Join(tokens, " ")); l != nil {
			a := asked{tokens[0], map[string]string{}}
			for k, name := range form.SubexpNames() {
				a.token[name] += l[k]
			}
			return a, true
		}
	}
	return asked{}, false
}

// isAbove tells whether one of the numbers of a text is above another one.
func isAbove(text string, most string) bool {
	top, _ := new(big.Int).SetString(most, 10)
	for _, n := range strings.Fields(text) {
		if x, _ := new(big.Int).SetString(n, 10); x.Cmp(top) > 0 {
			return true
		}
	}
	return false
}

// error is that of 24.2.
func (s *shellModel) error(tokens []string, open bool) (asked, api.Errno) {
	if open {
		return asked{}, api.ErrForm
	}
	for _, x := range tokens {
		if !right.MatchString(x) {
			return asked{}, api.ErrToken
		}
	}
	a, is := formOf(tokens)
	if !is {
		return asked{}, api.ErrForm
	}
	if isAbove(a.token["G"]+" "+a.token["F"]+" "+a.token["K"], "2147483647") || isAbove(a.token["V"]+" "+a.token["I"], "18446744073709551615") {
		return asked{}, api.ErrNumber
	}
	for _, name := range strings.Fields(a.token["A"] + " " + a.token["B"]) {
		if _, is := s.at[name]; !is {
			return asked{}, api.ErrName
		}
	}
	return a, api.OK
}

func (a asked) number(name string) int {
	return int(a.numbers(name)[0])
}

func (a asked) numbers(name string) []uint64 {
	var l []uint64
	for _, n := range strings.Fields(a.token[name]) {
		x, _ := new(big.Int).SetString(n, 10)
		l = append(l, x.Uint64())
	}
	return l
}

func (s *shellModel) command(tokens []string, text string, open bool) {
	a, e := s.error(tokens, open)
	if e != api.OK {
		s.tell("error %d", e)
		return
	}
	m := s.at[a.token["A"]]
	m.Names, m.Needs = append([]string{}, m.Names...), append([]api.Need{}, m.Needs...)
	switch a.word {
	case "program", "source", "load", "link", "trim":
		s.lay(a, m, text)
	case "name", "need":
		s.turn(a, m)
	case "run", "slow", "back":
		s.run(a, m.Image)
	default:
		s.show(a, m.Image)
	}
}

func (s *shellModel) lay(a asked, m api.Module, text string) {
	e, at, where := api.OK, 0, " at"
	switch a.word {
	case "program":
		m.Image, e, at = asm.Parse(text)
		where = " line"
	case "source":
		m.Image, e, at = lang.Compile(text)
		where = " line"
	case "load":
		var b []byte
		fmt.Sscanf(a.token["D"], "#%x", &b)
		m.Image, e, at = image.Decode(string(b))
	case "link":
		var l []api.Module
		for _, name := range strings.Fields(a.token["B"]) {
			l = append(l, s.at[name])
		}
		m, e, at = link.Link(l...)
	case "trim":
		var ok bool
		m.Image, ok = trim.Trim(m.Image)
		if !ok {
			s.tell("trim %s error 160", a.token["N"])
			return
		}
	}
	if e != api.OK {
		s.tell("%s %s error %d%s %d", a.word, a.token["N"], e, where, at)
		return
	}
	for len(m.Names) < len(m.Image.Gates) {
		m.Names = append(m.Names, "")
	}
	s.at[a.token["N"]] = m
	s.tell("%s %s ok", a.word, a.token["N"])
}

func (s *shellModel) turn(a asked, m api.Module) {
	gate := a.number("G")
	if gate >= len(m.Image.Gates) {
		s.tell("%s %s error 47", a.word, a.token["A"])
		return
	}
	if a.word == "name" {
		m.Names[gate] = a.token["W"]
	} else {
		byGate := map[int]string{gate: a.token["W"]}
		for _, n := range m.Needs {
			if n.Gate != gate {
				byGate[n.Gate] = n.Name
			}
		}
		m.Needs = nil
		for g := range m.Image.Gates {
			if name, is := byGate[g]; is {
				m.Needs = append(m.Needs, api.Need{Gate: g, Name: name})
			}
		}
	}
	s.at[a.token["A"]] = m
	s.tell("%s %s ok", a.word, a.token["A"])
}

func (s *shellModel) show(a asked, m api.Image) {
	name := a.token["A"]
	fail := func(e api.Errno) bool {
		if e != api.OK {
			s.tell("%s %s error %d", a.word, name, e)
		}
		return e != api.OK
	}
	switch a.word {
	case "print":
		if text, e := asm.Print(m); !fail(e) {
			s.tell("program %s\n%send", name, text)
		}
	case "bytes":
		if b, e := image.Encode(m); !fail(e) {
			s.tell("bytes %s %d%s", name, len(b), regexp.MustCompile(`.{1,64}`).ReplaceAllString(fmt.Sprintf("%x", b), "\n  $0"))
		}
	case "cert":
		if b, e := cert.Make(m); !fail(e) {
			s.tell("cert %s %d", name, len(b))
		}
	case "check":
		if r := checker.Check(m); r.Reason == api.Fine {
			s.tell("check %s taken %d", name, r.Steps)
		} else {
			s.tell("check %s refused %d gate %d at %d after %d", name, r.Reason, r.Gate, r.Pc, r.Steps)
		}
	case "cost":
		if c := bound.Gate(m, a.number("G")); c.Known {
			s.tell("cost %s %d %d %d %d", name, a.number("G"), c.Steps, c.Calls, c.Inputs)
		} else {
			s.tell("cost %s %d unknown", name, a.number("G"))
		}
	case "grant":
		l := reach.Grant(m, a.number("G"))
		s.tell("grant %s %d %d", name, a.number("G"), len(l))
		for _, c := range l {
			s.tell("  %d %d %d %d %d", c.Base, c.End, c.Cursor, c.Perms, c.Seal)
		}
	}
}

func (s *shellModel) run(a asked, m api.Image) {
	var r api.Result
	var e api.Errno
	gate, args, inputs, fuel := a.number("G"), a.numbers("V"), a.numbers("I"), a.number("F")
	switch a.word {
	case "run":
		r, e = fastRun(m, gate, args, inputs, fuel)
	case "slow":
		r, e = slowRun(m, gate, args, inputs, fuel)
	case "back":
		s.back(a, m)
		return
	}
	if e != api.OK {
		s.tell("%s %s %d error %d", a.word, a.token["A"], gate, e)
		return
	}
	o := r.Outcome
	end := strings.Fields("running halted guarded trapped spent overflow starved faulted")[o.End]
	s.tell("%s %s %d %s %d %d gate %d at %d", a.word, a.token["A"], gate, end, o.Value, o.Fault, o.Gate, o.Pc)
	s.tell("  out %s", strings.Trim(fmt.Sprint(r.Out), "[]"))
	for _, x := range r.Touches {
		kind := "load"
		if x.Store {
			kind = "store"
		}
		s.tell("  %s %d %d", kind, x.Addr, x.Size)
	}
}

// fastRun is chapter 16's Run; of a program that has too many bytes for it what it would be.
func fastRun(m api.Image, gate int, args []uint64, inputs []uint64, fuel int) (api.Result, api.Errno) {
	r := checker.Check(m)
	if r.Reason != api.Fine {
		return api.Result{}, api.ErrCheck
	}
	if b, e := image.Encode(m); e == api.OK {
		p, _, _, _ := sandbox.Load(b)
		return p.Run(gate, args, inputs, fuel)
	}
	if gate >= len(m.Gates) || hasCap(m.Gates[gate].Args) {
		return api.Result{}, api.ErrEntry
	}
	p, _ := erase.Program(m, r)
	return thread.Compile(p).Run(gate, args, inputs, fuel)
}

func hasCap(l []api.Type) bool {
	for _, x := range l {
		if x.Cap {
			return true
		}
	}
	return false
}

func slowRun(m api.Image, gate int, args []uint64, inputs []uint64, fuel int) (api.Result, api.Errno) {
	x, e := capmachine.New(m, gate, args, inputs)
	if e != api.OK {
		return api.Result{}, e
	}
	o := x.Run(fuel)
	return api.Result{Outcome: o, Out: x.Out(), Touches: x.Touches()}, api.OK
}

func (s *shellModel) back(a asked, m api.Image) {
	k := a.number("K")
	t, e := tape.Record(m, a.number("G"), a.numbers("V"), a.numbers("I"), a.number("F"))
	var x api.FSnap
	if e == api.OK {
		x, e = t.At(k)
	}
	if e != api.OK {
		s.tell("back %s %d error %d", a.token["A"], a.number("G"), e)
		return
	}
	s.tell("back %s %d %d gate %d at %d deep %d", a.token["A"], a.number("G"), k, x.Gate, x.Pc, x.Depth)
	s.tell("  %s", strings.Trim(fmt.Sprint(x.Regs), "[]"))
}
