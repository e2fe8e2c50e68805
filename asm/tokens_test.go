package asm_test

import (
	"regexp"
	"slices"
	"strings"
	"testing"

	"paddock/api"
	"paddock/asm"
)

// tokenKind is a kind of token: which words are of it, as the chapter's table says, and a text that is read to the end of its lines with such a word alone.
type tokenKind struct {
	name  string
	words *regexp.Regexp
	ahead string
	// behind follows the word in its line.
	behind string
}

// tokenKinds: a NAME is read as a gate's, a LABEL in code, a NUMBER as the depth, DATA of a region, an ARROW of a gate, a DASH among PERMS.
var tokenKinds = []tokenKind{
	{"NAME", regexp.MustCompile(`\A[a-zA-Z][a-zA-Z0-9_]{0,15}\z`), "depth 1\ngate ", " 0 0 ->"},
	{"LABEL", regexp.MustCompile(`\A[a-zA-Z][a-zA-Z0-9_]{0,15}:\z`), "depth 1\ncomp\nq_q: ", " ret"},
	{"NUMBER", regexp.MustCompile(`\A(-?[0-9]{1,20}|0x[0-9a-f]{1,16})\z`), "depth ", ""},
	{"DATA", regexp.MustCompile(`\A#([0-9a-f][0-9a-f])*\z`), "depth 1\nregion 0 16 bytes ", ""},
	{"ARROW", regexp.MustCompile(`\A->\z`), "depth 1\ngate g 0 0 ", ""},
	{"DASH", regexp.MustCompile(`\A-\z`), "depth 1\ncomp\nroot r8 0 0 0 ", " 0"},
}

// checkWord holds a word, in the places of all kinds, against the table.
func checkWord(t *testing.T, word string) {
	t.Helper()
	is := slices.IndexFunc(tokenKinds, func(k tokenKind) bool { return k.words.MatchString(word) })
	for n, k := range tokenKinds {
		want, at := api.ErrToken, strings.Count(k.ahead, "\n")+1
		if is >= 0 {
			want = api.ErrForm
		}
		// Where a LABEL or a DASH may stand, some NAMEs may, too.
		if is == 0 && (k.name == "LABEL" || k.name == "DASH") {
			continue
		}
		_, e, line := asm.Parse(k.ahead + word + k.behind)
		// What is wrong with the image as a whole is told with line 0; and the number may be too great, or too small.
		if is == n && line != 0 && e != api.ErrNumber || is != n && (e != want || line != at) {
			t.Errorf("5.1: %q as a %s: %d, line %d", word, k.name, e, line)
		}
	}
}

// TestShortWords goes through all words of up to four of some bytes.
func TestShortWords(t *testing.T) {
	const some = "afZ09x_-:#>@"
	words := []string{""}
	for range 4 {
		var longer []string
		for _, w := range words {
			for at := range some {
				longer = append(longer, w+some[at:at+1])
			}
		}
		for _, w := range longer {
			checkWord(t, w)
		}
		words = longer
	}
}

// TestEachByteInAToken puts each byte ahead of, behind and into a token of each kind.
func TestEachByteInAToken(t *testing.T) {
	for b := range 256 {
		if strings.IndexByte(" \t\n;", byte(b)) >= 0 {
			continue
		}
		s := string([]byte{byte(b)})
		for _, word := range []string{"", "ab", "ab:", "12", "-12", "0x12", "#12", "#1", "->", "-"} {
			for at := range len(word) + 1 {
				checkWord(t, word[:at]+s+word[at:])
			}
		}
	}
}

func TestLongWords(t *testing.T) {
	for _, one := range []string{"a", "Z", "a_", "Q9", "x0_"} {
		for n := range 40 {
			name := "n" + strings.Repeat(one, n)
			checkWord(t, name)
			checkWord(t, name+":")
			checkWord(t, name+"::")
		}
	}
	for _, one := range []string{"0", "9", "a", "f", "1", "0f", "A", "g"} {
		for n := 1; n < 40; n++ {
			row := strings.Repeat(one, n)
			for _, lead := range []string{"", "-", "--", "0", "0x", "-0x", "00x", "0X", "x", "#", "##", "+"} {
				checkWord(t, lead+row)
			}
		}
	}
	for _, word := range []string{"abcdefghijklmnop", "abcdefghijklmnopq", "abcdefghijklmnop:", "abcdefghijklmnopq:", "12345678901234567890", "-12345678901234567890", "123456789012345678901", "0x0123456789abcdef", "0x0123456789abcdef0", "0x", "#", "é", "ab\u00a0cd", "a\u0301", "\ufffd", "\xff", "a\x80"} {
		checkWord(t, word)
	}
}

// TestNearlyATokenIsToldInItsLine puts what is no token into each place of each line of a right text.
func TestNearlyATokenIsToldInItsLine(t *testing.T) {
	lines := strings.Split(strings.TrimSuffix(samplePrinted, "\n"), "\n")
	for n, line := range lines {
		words := strings.Fields(line)
		for at := range len(words) + 1 {
			for _, none := range []string{"@", "1a", "a:b", "#0", "0x", "--", ":", "\r", "\x00", "\v", "\u00a0", "abcdefghijklmnopq"} {
				wrong := slices.Clone(lines)
				wrong[n] = strings.Join(slices.Insert(slices.Clone(words), at, none), " ")
				checkWrong(t, "5.1", strings.Join(wrong, "\n"), api.ErrToken, n+1)
			}
		}
	}
}

// TestBlanks writes a text with other blanks between its tokens.
func TestBlanks(t *testing.T) {
	for _, between := range []string{" ", "\t", "  ", "\t\t", " \t ", "\t \t", strings.Repeat(" ", 50)} {
		for _, ahead := range []string{"", " ", "\t", " \t  "} {
			for _, behind := range []string{"", " ", "\t", "\t  ", ";", " ;", "\t; x", ";;", "; depth 1 @ ; #"} {
				var text strings.Builder
				for line := range strings.Lines(samplePrinted) {
					text.WriteString(ahead + strings.Join(strings.Fields(line), between) + behind + "\n")
				}
				checkParse(t, "5.1", text.String(), sampleImage())
			}
		}
	}
}

// TestOtherBytesAreNoBlanks: what a token ends at is a blank, a tab, a remark or the line's end, nothing else.
func TestOtherBytesAreNoBlanks(t *testing.T) {
	for b := range 256 {
		s := string([]byte{byte(b)})
		text := inCode("halt"+s+"r1", "ret")
		switch {
		case s == " " || s == "\t":
			checkCode(t, "5.1", text, api.Inst{Op: api.HALT, A: 1}, api.Inst{Op: api.RET})
		case s == "\n" || s == ";":
			checkWrong(t, "5.1", text, api.ErrForm, 3)
		case regexp.MustCompile(`[a-zA-Z0-9_]`).MatchString(s):
			checkWrong(t, "5.1", text, api.ErrName, 3)
		default:
			checkWrong(t, "5.1", text, api.ErrToken, 3)
		}
	}
	for _, s := range []string{"\u0085", "\u00a0", "\u2003", "\u2028", "\u3000", "\r\n", "\x1f"} {
		checkWrong(t, "5.1", inCode("halt r1"+s, "ret"), api.ErrToken, 3)
	}
}

// TestRemarks puts each byte into a remark; only a byte 10 ends it.
func TestRemarks(t *testing.T) {
	ret := api.Inst{Op: api.RET}
	for b := range 256 {
		s := string([]byte{byte(b)})
		if s == "\n" {
			continue
		}
		for _, text := range []string{"ret;" + s, "ret ;" + s + "halt", ";" + s + "\nret", "ret\n\t;" + s + s + ";"} {
			checkCode(t, "5.1", inCode(text), ret)
		}
	}
	checkCode(t, "5.1", inCode("ret;\nret;halt\n;ret", "ret; ret\n; \nret"), ret, ret, ret, ret)
	checkCode(t, "5.1", inCode("a:;b: ret", "jmp a;b"), api.Inst{Op: api.JMP})
	checkWrong(t, "5.1", inCode("ret", "halt;r1"), api.ErrForm, 4)
	checkWrong(t, "5.1", inCode("ret ; x\n@"), api.ErrToken, 4)
}

// TestLines holds which line an error is told of against the bytes 10 ahead of it.
func TestLines(t *testing.T) {
	for _, behind := range []string{"", "\n", "\n\n", " ", "\t\n", ";", ";\n", "\n \n;"} {
		checkParse(t, "5.1", strings.TrimSuffix(samplePrinted, "\n")+behind, sampleImage())
		checkParse(t, "5.1", rich+behind, richImage())
	}
	for n := range 6 {
		ahead := strings.Repeat(" ;\n", n)
		checkWrong(t, "5.1", ahead+"@", api.ErrToken, n+1)
		checkWrong(t, "5.1", ahead+"@\n", api.ErrToken, n+1)
		checkWrong(t, "5.1", ahead+"depth 1\n"+ahead+"comp\n"+ahead+"halt", api.ErrForm, 3*n+3)
		checkParse(t, "5.5", ahead+strings.ReplaceAll(samplePrinted, "\n", "\n"+ahead), sampleImage())
	}
}

// TestLongestText reads texts that are just as long as they may be, and one byte longer.
func TestLongestText(t *testing.T) {
	for _, filler := range []string{" ", "\n", "\t", ";", ";x"} {
		fill := func(n int) string { return samplePrinted + strings.Repeat(filler, n)[:n] }
		for _, less := range []int{0, 1} {
			checkParse(t, "5.1", fill(api.MaxText-less-len(samplePrinted)), sampleImage())
		}
		for _, more := range []int{1, 2, 1000} {
			checkWrong(t, "5.3", fill(api.MaxText+more-len(samplePrinted)), api.ErrLong, 0)
		}
	}
	checkWrong(t, "5.3", strings.Repeat("@", api.MaxText), api.ErrToken, 1)
	checkWrong(t, "5.3", strings.Repeat("@", api.MaxText+1), api.ErrLong, 0)
	checkWrong(t, "5.3", strings.Repeat("\n", api.MaxText-1)+"@", api.ErrToken, api.MaxText)
	checkWrong(t, "5.3", strings.Repeat("\n", api.MaxText), api.ErrForm, 1)
	checkWrong(t, "5.3", strings.Repeat("\n", api.MaxText+1), api.ErrLong, 0)
	checkWrong(t, "5.3", "depth 1\ncomp\n"+strings.Repeat("ret\n", 14000), api.ErrCount, 0)
}
