package lang_test

import (
	"regexp"
	"strings"
	"sync"
)

// The grammar of 15.2, word by word. What is asked of it is asked in a plain way: all ways in which it could go on are kept, token by token.
const grammar = `
program:  { region } comp { comp }
region:   ( "bytes" | "words" ) NAME NUMBER
comp:     "comp" NAME { ( "uses" | "reads" ) NAME } "{" fn { fn } "}"
fn:       "fn" NAME "(" [ param { "," param } ] ")" block
param:    NAME [ ":" ( "uses" | "reads" ) NAME ]
block:    "{" { stmt } "}"
stmt:     let | set | store | call | if | while | out | need | trap | return
let:      "let" NAME "=" value
set:      NAME "=" value
store:    NAME "[" expr "]" "=" expr
if:       "if" expr block [ "else" block ]
while:    "while" expr block
out:      "out" expr
need:     "need" expr NUMBER
trap:     "trap" NUMBER
return:   "return" expr
value:    call | expr
call:     NAME "(" [ arg { "," arg } ] ")"
arg:      expr
expr:     sum [ ( "==" | "!=" | "<" | "<=" | ">" | ">=" ) sum ]
sum:      term { ( "+" | "-" | "|" | "^" ) term }
term:     factor { ( "*" | "&" | "<<" | ">>" ) factor }
factor:   NUMBER | "in" | NAME | NAME "[" expr "]" | "(" expr ")" | "-" factor | "!" factor
`

// part is a piece of a rule: of the kinds "text", "rule", "row" (one behind the other), "or" (one of them), "may" (once or not at all), "many".
type part struct {
	kind  string
	text  string
	parts []*part
	opens bool // all that stands behind it in its row is one deeper
	shuts bool // up to this one
}

// rules reads the grammar.
func rules() map[string]*part {
	all := map[string]*part{}
	for _, line := range strings.Split(strings.TrimSpace(grammar), "\n") {
		name, text, _ := strings.Cut(line, ":  ")
		if text == "" {
			name, text, _ = strings.Cut(line, ": ")
		}
		r := &ruleReader{rule: name, words: strings.Fields(text)}
		all[name] = r.choice()
	}
	return all
}

var theRules = sync.OnceValue(rules)

type ruleReader struct {
	rule  string
	words []string
}

func (r *ruleReader) choice() *part {
	p := &part{kind: "or", parts: []*part{r.row()}}
	for len(r.words) > 0 && r.words[0] == "|" {
		r.words = r.words[1:]
		p.parts = append(p.parts, r.row())
	}
	return p
}

func (r *ruleReader) row() *part {
	p := &part{kind: "row"}
	for len(r.words) > 0 && !strings.Contains("|)]}", r.words[0]) {
		p.parts = append(p.parts, r.one())
	}
	return p
}

func (r *ruleReader) one() *part {
	word := r.words[0]
	r.words = r.words[1:]
	if kind := map[string]string{"(": "or", "[": "may", "{": "many"}[word]; kind != "" {
		inner := r.choice()
		r.words = r.words[1:]
		return &part{kind: kind, parts: []*part{inner}}
	}
	if text := strings.Trim(word, `"`); text != word {
		p := &part{kind: "text", text: text}
		p.opens = strings.Contains("([", text) || text == "{" && r.rule == "block" || strings.Contains("-!", text) && r.rule == "factor"
		p.shuts = strings.Contains(")]", text) || text == "}" && r.rule == "block"
		return p
	}
	if word == "NAME" || word == "NUMBER" {
		return &part{kind: "text", text: word}
	}
	return &part{kind: "rule", text: word}
}

// due is what must still come: a part, so deep, and what is due behind it.
type due struct {
	part *part
	deep int
	next *due
}

// row puts parts ahead of what is due.
func (d *due) row(l []*part, deep int) *due {
	if len(l) == 0 {
		return d
	}
	behind := deep
	if l[0].opens {
		behind++
	}
	if l[0].shuts {
		behind--
	}
	return &due{l[0], behindOpened(l[0], deep), d.row(l[1:], behind)}
}

// behindOpened is how deep a part itself is: one that opens is as deep as what it opens.
func behindOpened(p *part, deep int) int {
	if p.opens {
		return deep + 1
	}
	return deep
}

// ready tells which single tokens may come, and what is due behind each; nil stands for the text's end.
func (d *due) ready(all map[string]*part, found func(text string, deep int, behind *due)) {
	if d == nil {
		found("", 0, nil)
		return
	}
	switch p := d.part; p.kind {
	case "text":
		found(p.text, d.deep, d.next)
	case "rule":
		(&due{all[p.text], d.deep, d.next}).ready(all, found)
	case "row":
		d.next.row(p.parts, d.deep).ready(all, found)
	case "or":
		for _, x := range p.parts {
			(&due{x, d.deep, d.next}).ready(all, found)
		}
	case "may":
		d.next.ready(all, found)
		(&due{p.parts[0], d.deep, d.next}).ready(all, found)
	case "many":
		d.next.ready(all, found)
		(&due{p.parts[0], d.deep, d}).ready(all, found)
	}
}

// stops tells the first token with which no program goes on so: the number of tokens, if that is the text's end, and -1, if there is none.
func stops(l []piece) int {
	all := theRules()
	ways := []*due{{&part{kind: "rule", text: "program"}, 0, nil}}
	for at := 0; at <= len(l); at++ {
		want := ""
		if at < len(l) {
			want = l[at].form()
		}
		var next []*due
		over := false
		for _, w := range ways {
			w.ready(all, func(text string, deep int, behind *due) {
				if text == want && deep <= 20 {
					next, over = append(next, behind), over || text == ""
				}
			})
		}
		if len(next) == 0 {
			return at
		}
		if over {
			return -1
		}
		ways = next
	}
	return -1
}

// piece is a token.
type piece struct {
	text string
	line int
}

const keywords = " bytes words comp uses reads fn let if else while out need trap return in "

func (p piece) isName() bool {
	return p.text[0] >= 'a' && p.text[0] <= 'z' && !strings.Contains(keywords, " "+p.text+" ")
}

func (p piece) isNumber() bool { return p.text[0] >= '0' && p.text[0] <= '9' }

// form is how the grammar names it.
func (p piece) form() string {
	if p.isName() {
		return "NAME"
	}
	if p.isNumber() {
		return "NUMBER"
	}
	return p.text
}

var token = regexp.MustCompile(`^(?:[a-z][a-z0-9_]*|[0-9]+|==|!=|<=|>=|<<|>>|[\{\}\(\)\[\],:=+*&|^!<>-])`)

var between = regexp.MustCompile(`^(?:[ \t\n]|#[^\n]*)+`)

// cutUp cuts a text by 15.1. The line of what is no token is told, or 0.
func cutUp(source string) ([]piece, int) {
	var l []piece
	line := 1
	for source != "" {
		if b := between.FindString(source); b != "" {
			line += strings.Count(b, "\n")
			source = source[len(b):]
			continue
		}
		text := token.FindString(source)
		p := piece{text, line}
		if text == "" || !p.isNumber() && len(text) > 12 || p.isNumber() && numberOf(text) > 2147483647 {
			return nil, line
		}
		l = append(l, p)
		source = source[len(text):]
	}
	return l, 0
}

// numberOf is that of a row of digits; one that is too great stays too great.
func numberOf(digits string) int {
	n := 0
	for _, c := range digits {
		n = min(10*n+int(c-'0'), 1<<40)
	}
	return n
}
