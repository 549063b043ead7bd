package lex

import (
	"errors"
	"math"
	"slices"
	"strconv"
	"strings"
	"testing"

	"stillroom/api"
)

const words = "SELECT FROM WHERE GROUP ORDER BY LIMIT ASC DESC AND OR NOT IS IN BETWEEN NULL TRUE FALSE COUNT SUM MIN MAX"

// told: tokens as "kind:text@place" with a blank between.
func told(l []api.Token) string {
	var out []string
	for _, x := range l {
		out = append(out, strconv.Itoa(x.Kind)+":"+x.Text+"@"+strconv.Itoa(x.At))
	}
	return strings.Join(out, " ")
}

// right: the tokens of a text must be these.
func right(t *testing.T, text, want string) {
	t.Helper()
	l, at, e := Lex(text)
	if told(l) != want || at != 0 || e != api.OK {
		t.Errorf("Lex(%.60q): %s, %d, %d, want %s", text, told(l), at, e, want)
	}
}

// refused: a text must be refused at a place, with nothing beside.
func refused(t *testing.T, text string, place int, want api.Errno) {
	t.Helper()
	l, at, e := Lex(text)
	if len(l) != 0 || at != place || e != want {
		t.Errorf("Lex(%.60q): %s, %d, %d, want %d at %d", text, told(l), at, e, want, place)
	}
}

// P10.1: ordinary texts.
func TestTokens(t *testing.T) {
	for text, want := range map[string]string{
		"":                      "0:@0",
		" \t\r\n":               "0:@4",
		"a":                     "1:a@0 0:@1",
		"a>=-5":                 "1:a@0 4:>=@1 2:-5@3 0:@5",
		"'it''s'":               "3:'it''s'@0 0:@7",
		" a \n":                 "1:a@1 0:@4",
		"a_1b2__":               "1:a_1b2__@0 0:@7",
		"SELECT a":              "5:SELECT@0 1:a@7 0:@8",
		"COUNT(*)":              "5:COUNT@0 4:(@5 4:*@6 4:)@7 0:@8",
		"a,b":                   "1:a@0 4:,@1 1:b@2 0:@3",
		"a-1":                   "1:a@0 2:-1@1 0:@3",
		"1-1":                   "2:1@0 2:-1@1 0:@3",
		"1<-1":                  "2:1@0 4:<@1 2:-1@2 0:@4",
		"''":                    "3:''@0 0:@2",
		"''''":                  "3:''''@0 0:@4",
		"'' ''":                 "3:''@0 3:''@3 0:@5",
		"'''a' 'b'":             "3:'''a'@0 3:'b'@6 0:@9",
		"a'b'c":                 "1:a@0 3:'b'@1 1:c@4 0:@5",
		"1'b'2":                 "2:1@0 3:'b'@1 2:2@4 0:@5",
		"'SELECT'":              "3:'SELECT'@0 0:@8",
		"'a b'":                 "3:'a b'@0 0:@5",
		`'\0a\27'`:              "",
		`'\0a\ff'`:              `3:'\0a\ff'@0 0:@8`,
		"0":                     "2:0@0 0:@1",
		"9223372036854775807":   "2:9223372036854775807@0 0:@19",
		"-9223372036854775808 ": "2:-9223372036854775808@0 0:@21",
	} {
		if want != "" {
			right(t, text, want)
		} else {
			refused(t, text, 0, api.ErrLex)
		}
	}
}

// P10.1: signs, each the longest that fits.
func TestSigns(t *testing.T) {
	right(t, "=<>*,()", "4:=@0 4:<>@1 4:*@3 4:,@4 4:(@5 4:)@6 0:@7")
	right(t, "<>= <=> >=< ><", "4:<>@0 4:=@2 4:<=@4 4:>@6 4:>=@8 4:<@10 4:>@12 4:<@13 0:@14")
	right(t, "==<<", "4:=@0 4:=@1 4:<@2 4:<@3 0:@4")
	right(t, "< > < = > =", "4:<@0 4:>@2 4:<@4 4:=@6 4:>@8 4:=@10 0:@11")
}

// P10.1: each byte, alone and behind a name, begins a token just if the chapter has one that it begins.
func TestBytes(t *testing.T) {
	for n := range 256 {
		c := string([]byte{byte(n)})
		switch {
		case strings.Contains("\t\n\r ", c):
			right(t, c, "0:@1")
			right(t, "a"+c+"b", "1:a@0 1:b@2 0:@3")
		case 'a' <= n && n <= 'z':
			right(t, c, "1:"+c+"@0 0:@1")
			right(t, "a"+c, "1:a"+c+"@0 0:@2")
		case '0' <= n && n <= '9':
			right(t, c, "2:"+c+"@0 0:@1")
			right(t, "a"+c, "1:a"+c+"@0 0:@2")
		case strings.Contains("=<>*,()", c):
			right(t, c, "4:"+c+"@0 0:@1")
			right(t, "a"+c, "1:a@0 4:"+c+"@1 0:@2")
		case c == "_":
			refused(t, c, 0, api.ErrLex)
			right(t, "a"+c, "1:a_@0 0:@2")
		case 'A' <= n && n <= 'Z':
			refused(t, c, 0, api.ErrLex)
			refused(t, "a"+c, 0, api.ErrLex)
		default:
			refused(t, c, 0, api.ErrLex)
			refused(t, "a"+c, 1, api.ErrLex)
		}
	}
}

// P10.1: Word, and words as tokens.
func TestWord(t *testing.T) {
	for _, w := range strings.Fields(words) {
		if !Word(w) {
			t.Errorf("Word(%s): false", w)
		}
		right(t, w, "5:"+w+"@0 0:@"+strconv.Itoa(len(w)))
		for _, s := range []string{strings.ToLower(w), w + "S", w + " ", " " + w, w[1:], w[:len(w)-1], w + "_", w + "1", "_" + w, w[:1] + strings.ToLower(w[1:]), w + w} {
			if Word(s) != slices.Contains(strings.Fields(words), s) {
				t.Errorf("Word(%q): %v", s, Word(s))
			}
		}
		low := strings.ToLower(w)
		right(t, low, "1:"+low+"@0 0:@"+strconv.Itoa(len(w)))
		for _, s := range []string{w[:1] + low[1:], w + "s", w + "1", w + "_", "_" + w, w + "_" + w} {
			refused(t, s, 0, api.ErrLex)
		}
	}
	for _, s := range []string{"", " ", "a", "1", "=", "*", words, "HAVING", "AS", "JOIN", "END", "\x00"} {
		if Word(s) {
			t.Errorf("Word(%q): true", s)
		}
	}
}

// P10.1: what isn't a token, told at its first byte.
func TestRefused(t *testing.T) {
	long := strings.Repeat("a", api.MaxName)
	for _, s := range []string{
		"05", "00", "-0", "-", "--1", "-a", "- 1", "1a", "1_", "0x1", "1e3", "-1a", "01a", "-_", "-SELECT", "1SELECT", "007", "+1", ";", ".", "!", "!=", "\"", "\"a\"", "/", "%", "[", "?", "\\", "#", "\x00", "\x7f", "\x80", "é", "Select", "aB", "Ab", "_", "_a", "__", "A", long + "a", long + "_", long + "A",
		"'", "'a", "'''", "'a''", "'''''", "'a''b", "'\n'", "'\x00'", "'\x7f'", "'\x80'", "'é'", `'\'`, `'\0'`, `'\0A'`, `'\61'`, `'\27'`, `'\n'`, "'\\''", "'" + strings.Repeat("a", api.MaxText+1), "'" + strings.Repeat("a", api.MaxText+1) + "\t'",
		strings.Repeat("9", 30) + "a", "0" + strings.Repeat("9", 30), "-0" + strings.Repeat("9", 30),
	} {
		refused(t, s, 0, api.ErrLex)
		refused(t, " \n"+s, 2, api.ErrLex)
		refused(t, "SELECT ab,"+s+" FROM", 10, api.ErrLex)
		refused(t, "a<>'b' "+s, 7, api.ErrLex)
	}
	for _, s := range []string{"aé", "a.b", "1.0", "a;", "a b;", "1;", "'a';", "<=;", "a!=1", "a\x00", "=!"} {
		refused(t, s, strings.IndexAny(s, ".;!\x00é"), api.ErrLex)
	}
	right(t, long, "1:"+long+"@0 0:@20")
}

// P10.1: values that are too great, or too long.
func TestGreat(t *testing.T) {
	for _, s := range []string{
		"9223372036854775808", "-9223372036854775809", strings.Repeat("9", 1000), "-1" + strings.Repeat("0", 100),
		"'" + strings.Repeat("a", api.MaxText+1) + "'", "'" + strings.Repeat("''", api.MaxText+1) + "'", "'" + strings.Repeat(`\0a`, api.MaxText+1) + "'", "'" + strings.Repeat("a", 1000) + "'",
	} {
		refused(t, s, 0, api.ErrRange)
		refused(t, "a = "+s+" ;", 4, api.ErrRange)
		refused(t, "; "+s, 0, api.ErrLex)
	}
	for _, s := range []string{strings.Repeat("a", api.MaxText), strings.Repeat("''", api.MaxText), strings.Repeat(`\0a`, api.MaxText)} {
		right(t, "'"+s+"'", "3:'"+s+"'@0 0:@"+strconv.Itoa(len(s)+2))
	}
	for _, n := range []int{math.MaxInt, math.MinInt, math.MaxInt - 1, math.MinInt + 1} {
		s := strconv.Itoa(n)
		right(t, s, "2:"+s+"@0 0:@"+strconv.Itoa(len(s)))
	}
}

// P10.1: a text's bytes, and its tokens, are at most so many.
func TestLimits(t *testing.T) {
	full := strings.Repeat(" ", api.MaxQuery)
	right(t, full, "0:@1500")
	refused(t, full+" ", api.MaxQuery, api.ErrLong)
	refused(t, full+"a", api.MaxQuery, api.ErrLong)
	refused(t, ";"+full, api.MaxQuery, api.ErrLong)
	refused(t, strings.Repeat("=", api.MaxQuery+1), api.MaxQuery, api.ErrLong)
	refused(t, "'"+strings.Repeat("a", 5000), api.MaxQuery, api.ErrLong)
	refused(t, full[1:]+";", api.MaxQuery-1, api.ErrLex)

	most := strings.Repeat("a,", api.MaxTokens/2)
	if l, at, e := Lex(most); len(l) != api.MaxTokens+1 || at != 0 || e != api.OK || l[api.MaxTokens] != (api.Token{Kind: api.TEnd, At: api.MaxTokens}) {
		t.Errorf("Lex of %d tokens: %d, %d, %d", api.MaxTokens, len(l), at, e)
	}
	for _, s := range []string{"a", "=", "1", "'a'", "SELECT", "a;", "a 'b"} {
		refused(t, most+s, api.MaxTokens, api.ErrFull)
		refused(t, most+" \n"+s, api.MaxTokens+2, api.ErrFull)
	}
	// What is wrong with the token itself is named ahead of its being one too many.
	for s, e := range map[string]api.Errno{";": api.ErrLex, "'b": api.ErrLex, "05": api.ErrLex, "9223372036854775808": api.ErrRange} {
		refused(t, most+s, api.MaxTokens, e)
		refused(t, s+","+most, 0, e)
	}
	right(t, most[:6]+" ", "1:a@0 4:,@1 1:a@2 4:,@3 1:a@4 4:,@5 0:@7")
}

// P10.1: all short texts of some bytes, by the words.
func TestAllShort(t *testing.T) {
	for _, bytes := range []string{"aA_0-' ", "<>=1\\a'", "aI\nN0,"} {
		texts := []string{""}
		for range 6 {
			var longer []string
			for _, s := range texts {
				for _, c := range bytes {
					longer = append(longer, s+string(c))
				}
			}
			for _, s := range longer {
				matches(t, s)
			}
			texts = longer
		}
	}
}

// matches: a text must be answered as the model has it.
func matches(t *testing.T, s string) {
	t.Helper()
	l, at, e := Lex(s)
	w, place, want := model(s)
	if !same(l, at, e, w, place, want) {
		t.Fatalf("Lex(%q): %s, %d, %d, want %s, %d, %d", s, told(l), at, e, told(w), place, want)
	}
}

// dice: numbers that are the same each time.
type dice uint64

func (d *dice) throw(n int) int {
	*d = *d*6364136223846793005 + 1442695040888963407
	return int(uint64(*d) >> 33 % uint64(n))
}

// piece: some part of a text; nearly all are tokens.
func piece(d *dice) string {
	const signs = "= <> < <= > >= * , ( )"
	switch d.throw(12) {
	case 0, 1:
		return strings.Fields(words)[d.throw(22)]
	case 2, 3:
		return []string{"a", "ab_1", "stock", "select", "q" + strings.Repeat("x", 19), "z9"}[d.throw(6)]
	case 4:
		return strconv.Itoa(d.throw(1000) - 500)
	case 5:
		return []string{"9223372036854775807", "-9223372036854775808", "0", "7"}[d.throw(4)]
	case 6, 7:
		return []string{"''", "'a'", "'it''s'", `'\0a'`, "'a = 1'", "'" + strings.Repeat("''", 60) + "'"}[d.throw(6)]
	case 8, 9, 10:
		return strings.Fields(signs)[d.throw(10)]
	}
	if d.throw(15) > 0 {
		return "b"
	}
	return []string{";", "Ab", "05", "'", "9223372036854775808", "\xff", "-", "1a", "'" + strings.Repeat("b", 61) + "'"}[d.throw(9)]
}

// blanks: some of them, often none.
func blanks(d *dice) string {
	return []string{"", "", " ", "\n", "\t \r", "  "}[d.throw(6)]
}

// P10.1: long texts, by the words.
func TestLong(t *testing.T) {
	d := dice(10)
	for range 3000 {
		var b strings.Builder
		for range d.throw(300) {
			b.WriteString(piece(&d) + blanks(&d))
		}
		s := b.String()
		matches(t, s[:min(len(s), api.MaxQuery+d.throw(3)-1)])
	}
}

// P10.2: each token stands in the text at its place, in order, with just blanks between; with blanks between they are the same ones.
func TestPlaces(t *testing.T) {
	d := dice(102)
	right := 0
	for range 4000 {
		var b strings.Builder
		for range d.throw(40) {
			b.WriteString(blanks(&d) + piece(&d))
		}
		s := b.String()
		l, _, e := Lex(s)
		if e != api.OK {
			continue
		}
		right++
		at, apart := 0, ""
		for _, x := range l {
			if x.At < at || strings.Trim(s[at:x.At], "\t\n\r ") != "" || !strings.HasPrefix(s[x.At:], x.Text) || (x.Text == "") != (x.Kind == api.TEnd) {
				t.Fatalf("Lex(%q): %s", s, told(l))
			}
			at = x.At + len(x.Text)
			apart += blanks(&d) + " " + x.Text
		}
		if at != len(s) {
			t.Fatalf("Lex(%q) ends at %d", s, at)
		}
		again, _, e := Lex(apart)
		if e == api.ErrLong {
			continue
		}
		if e != api.OK || !slices.EqualFunc(l, again, func(a, b api.Token) bool { return a.Kind == b.Kind && a.Text == b.Text }) {
			t.Fatalf("Lex(%q): %s; of %q: %s, %d", s, told(l), apart, told(again), e)
		}
	}
	if right < 1000 {
		t.Errorf("just %d texts have tokens", right)
	}
}

// P10.3: answers are new memory, spare room too.
func TestApart(t *testing.T) {
	const text = "SELECT a FROM t WHERE b <= 'it''s' LIMIT 5"
	want := told(just(Lex(text)))
	var all [][]api.Token
	for range 4 {
		l, _, _ := Lex(text)
		all = append(all, l)
	}
	for n, l := range all {
		if told(l) != want {
			t.Errorf("answer %d went with another: %s", n, told(l))
		}
		for k := range l[:cap(l)] {
			l[:cap(l)][k] = api.Token{Kind: 9, Text: "gone", At: -1}
		}
	}
	if s := told(just(Lex(text))); s != want {
		t.Errorf("with an answer the next one went: %s", s)
	}
}

func just(l []api.Token, _ int, _ api.Errno) []api.Token {
	return l
}

// Ways: what is wrong is wrapped at its place, and found by errors.As and errors.Is.
func TestWrapped(t *testing.T) {
	for s, want := range map[string]error{"a ;": errNone, "a 9223372036854775808": errGreat, " " + strings.Repeat("=", api.MaxTokens+1): errMany, strings.Repeat(" ", api.MaxQuery+1): errLong} {
		_, err := all(s)
		var f fault
		if !errors.As(err, &f) || !errors.Is(err, want) {
			t.Errorf("of %.20q: %v", s, err)
			continue
		}
		_, at, e := Lex(s)
		if f.at != at || f.number() != e || err.Error() != "byte "+strconv.Itoa(at)+": "+want.Error() {
			t.Errorf("of %.20q: %v, but %d at %d", s, err, e, at)
		}
	}
	if _, err := all("a"); err != nil {
		t.Errorf("of a: %v", err)
	}
}
