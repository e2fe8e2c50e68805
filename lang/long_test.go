package lang_test

import (
	"strconv"
	"strings"
	"testing"
	"time"

	"paddock/api"
	"paddock/lang"
)

// many are texts with a number in them, again and again, as many as there is room for.
func many(form string, room int) string {
	var b strings.Builder
	for k := 0; b.Len() < room; k++ {
		b.WriteString(strings.ReplaceAll(form, "%", strconv.Itoa(k)))
	}
	return b.String()
}

// TestLongTextsEnd: texts as long as may be, of which all is much, are told of soon.
func TestLongTextsEnd(t *testing.T) {
	t.Parallel()
	const room = api.MaxText - 600
	for what, c := range map[string]rule{
		"regions":        {many("bytes a% 1 ", room) + small, api.ErrRoom, 1},
		"regions alike":  {many("bytes a 1 ", room) + small, api.ErrKnown, 1},
		"compartments":   {many("comp c%{fn f%(){}}", room), api.ErrRoom, 1},
		"functions":      {"comp c{" + many("fn f%(){}", room) + "}", api.ErrRoom, 1},
		"params":         {"comp c{fn f(a" + many(",b%", room) + "){}}", api.ErrRoom, 1},
		"params lent":    {"bytes r 1 comp c{fn f(a" + many(",b%:uses r", room) + "){}}", api.ErrRoom, 1},
		"uses":           {"bytes r 1 comp c" + many(" uses r", room) + "{fn f(){}}", api.ErrKnown, 1},
		"uses of none":   {"bytes r 1 comp c" + many(" uses r%", room) + "{fn f(){}}", api.ErrKnown, 1},
		"lets":           {"comp c{fn f(){" + many("let x%=1 ", room) + "}}", api.ErrRoom, 1},
		"statements":     {"comp c{fn f(x){" + many("x=x ", room) + "}}", api.ErrRoom, 1},
		"a sum":          {"comp c{fn f(x){out 1" + many("+x", room) + "}}", api.ErrRoom, 1},
		"a product":      {"comp c{fn f(x){out x" + many("*%", room) + "}}", api.ErrRoom, 1},
		"args":           {"comp c{fn f(x){f(1" + many(",x", room) + ")}}", api.ErrSort, 1},
		"calls":          {"comp c{fn f(x){" + many("f(x)", room) + "}}", api.ErrRoom, 1},
		"calls of none":  {"comp c{fn f(x){" + many("g%()", room) + "}}", api.ErrKnown, 1},
		"blocks":         {"comp c{fn f(x){" + many("if x{let y=x}else{let z=x}", room) + "}}", api.ErrRoom, 1},
		"lines":          {times("\n", room) + "$", api.ErrLang, room + 1},
		"remarks":        {many("#%\n", room), api.ErrLang, strings.Count(many("#%\n", room), "\n") + 1},
		"open brackets":  {"comp c{fn f(x){out " + times("(", room), api.ErrLang, 1},
		"signs":          {"comp c{fn f(x){out " + times("-", room), api.ErrLang, 1},
		"open blocks":    {"comp c{fn f(x){" + times("if x{", room/5), api.ErrLang, 1},
		"a word":         {times("x", room), api.ErrLang, 1},
		"a number":       {"bytes a " + times("0", room) + "1 " + small, api.OK, 0},
		"nothing":        {times(" ", room), api.ErrLang, 1},
		"high exprs":     {"comp c{fn f(x){" + many("out 1+(x+(x+(x+(x+(x+1)))))", room) + "}}", api.ErrRoom, 1},
		"args of highs":  {"comp c{fn f(x,y){" + many("f(1+(x+(x+(x+(x+(x+1))))),x)", room) + "}}", api.ErrRoom, 1},
		"braces":         {times("}", room), api.ErrLang, 1},
		"deep elements":  {"bytes r 9 comp c uses r{fn f(x){" + many("out r[r[r[r[r[r[x]]]]]]", room) + "}}", api.ErrRoom, 1},
		"lets in blocks": {"comp c{fn f(){" + times("if 1{", 19) + many("let x%=1 ", room) + times("}", 21), api.ErrRoom, 1},
	} {
		begin := time.Now()
		for range 2 {
			lang.Compile(c.source)
		}
		if took := time.Since(begin); took > 2*time.Second {
			t.Errorf("%s: twice takes %v", what, took)
		}
		checkWrong(t, "15.1 to 15.3: much of: "+what, c.source, c.e, c.line)
	}
}
