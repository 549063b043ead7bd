package value

import (
	"fmt"
	"math"
	"strings"
	"testing"

	"stillroom/api"
)

// P1.1: Text.
func TestText(t *testing.T) {
	for _, c := range []struct {
		v    api.Value
		want string
	}{
		{null, "NULL"}, {no, "FALSE"}, {yes, "TRUE"},
		{num(0), "0"}, {num(5), "5"}, {num(-5), "-5"}, {num(100), "100"}, {num(math.MaxInt), "9223372036854775807"}, {num(math.MinInt), "-9223372036854775808"},
		{text(""), "''"}, {text("a"), "'a'"}, {text("'"), "''''"}, {text("''"), "''''''"}, {text("a'\n"), `'a''\0a'`}, {text("NULL"), "'NULL'"},
		{text(`\`), `'\5c'`}, {text(`\\0a`), `'\5c\5c0a'`}, {text("\x00\x1f \x7e\x7f\x80\xff"), `'\00\1f ~\7f\80\ff'`}, {text("é"), `'\c3\a9'`}, {text(`"?;`), `'"?;'`},
	} {
		if s := Text(c.v); s != c.want {
			t.Errorf("Text(%v): %s, want %s", c.v, s, c.want)
		}
	}
}

// P1.1, P1.3: each byte has its own way to be written, and is read in that way alone.
func TestBytes(t *testing.T) {
	for n := range 256 {
		c := string([]byte{byte(n)})
		escape := fmt.Sprintf(`\%02x`, n)
		want, others := c, []string{escape}
		switch {
		case c == "'":
			want, others = "''", []string{c, escape, `\'`}
		case n < 32 || n > 126 || c == `\`:
			want, others = escape, []string{c}
		}
		for _, beside := range []string{"", "a", "'", "0", "\\"} {
			v := text(beside + c + beside)
			b := strings.ReplaceAll(strings.ReplaceAll(beside, "'", "''"), `\`, `\5c`)
			s := "'" + b + want + b + "'"
			if Text(v) != s {
				t.Errorf("Text(%q): %s, want %s", v.Text, Text(v), s)
			}
			if got, e := Read(s); got != v || e != api.OK {
				t.Errorf("Read(%s): %v, %d", s, got, e)
			}
		}
		for _, other := range others {
			if got, e := Read("'a" + other + "b'"); got != null || e != api.ErrForm {
				t.Errorf("Read('a%sb'): %v, %d", other, got, e)
			}
		}
	}
}

// P1.3: each value is read of its text.
func TestReadBack(t *testing.T) {
	for _, v := range rising() {
		if got, e := Read(Text(v)); got != v || e != api.OK {
			t.Errorf("Read(%s): %v, %d, want %v", Text(v), got, e, v)
		}
	}
	all := make([]byte, 256)
	for n := range all {
		all[n] = byte(n)
	}
	for from := 0; from+api.MaxText <= len(all); from++ {
		v := text(string(all[from : from+api.MaxText]))
		if got, e := Read(Text(v)); got != v || e != api.OK {
			t.Errorf("Read(%s): %v, %d, want %v", Text(v), got, e, v)
		}
	}
}

// P1.1, P1.3, R3: what is refused, and how.
func TestReadRefused(t *testing.T) {
	over := strings.Repeat("a", api.MaxText+1)
	for _, c := range []struct {
		s string
		e api.Errno
	}{
		{"", api.ErrForm}, {" ", api.ErrForm}, {"null", api.ErrForm}, {"Null", api.ErrForm}, {"NULL ", api.ErrForm}, {" NULL", api.ErrForm}, {"NUL", api.ErrForm}, {"NULLNULL", api.ErrForm}, {"true", api.ErrForm}, {"false", api.ErrForm}, {"T", api.ErrForm}, {"a", api.ErrForm},
		{"-", api.ErrForm}, {"--1", api.ErrForm}, {"-0", api.ErrForm}, {"00", api.ErrForm}, {"01", api.ErrForm}, {"-01", api.ErrForm}, {"+1", api.ErrForm}, {"+", api.ErrForm}, {"1 ", api.ErrForm}, {" 1", api.ErrForm}, {"1a", api.ErrForm}, {"0x1", api.ErrForm}, {"1_0", api.ErrForm}, {"1.0", api.ErrForm}, {"1e3", api.ErrForm}, {"- 1", api.ErrForm}, {"1-", api.ErrForm}, {"1\x00", api.ErrForm}, {"１", api.ErrForm}, {"/", api.ErrForm}, {":", api.ErrForm}, {"1/", api.ErrForm}, {"1:", api.ErrForm},
		{"9223372036854775808", api.ErrRange}, {"-9223372036854775809", api.ErrRange}, {"18446744073709551616", api.ErrRange}, {"18446744073709551617", api.ErrRange}, {strings.Repeat("9", 1000), api.ErrRange}, {"-1" + strings.Repeat("0", 1000), api.ErrRange},
		{"0" + strings.Repeat("9", 100), api.ErrForm}, {"-0" + strings.Repeat("9", 100), api.ErrForm}, {strings.Repeat("9", 100) + "a", api.ErrForm},
		{"'", api.ErrForm}, {"'''", api.ErrForm}, {"'''''", api.ErrForm}, {"'a", api.ErrForm}, {"a'", api.ErrForm}, {"'a'b'", api.ErrForm}, {"'a' ", api.ErrForm}, {" 'a'", api.ErrForm}, {"'a''", api.ErrForm}, {`"a"`, api.ErrForm},
		{`'\'`, api.ErrForm}, {`'\0'`, api.ErrForm}, {`'\0`, api.ErrForm}, {`'\00`, api.ErrForm}, {`'\\'`, api.ErrForm}, {`'\5C'`, api.ErrForm}, {`'\0A'`, api.ErrForm}, {`'\g0'`, api.ErrForm}, {`'\0g'`, api.ErrForm}, {`'\x0'`, api.ErrForm}, {`'\n'`, api.ErrForm}, {`'\ 0'`, api.ErrForm}, {`'\0''`, api.ErrForm},
		{`'\41'`, api.ErrForm}, {`'\20'`, api.ErrForm}, {`'\7e'`, api.ErrForm}, {`'\27'`, api.ErrForm},
		{"'" + over + "'", api.ErrRange}, {"'" + strings.Repeat("\\00", api.MaxText+1) + "'", api.ErrRange}, {"'" + strings.Repeat("''", api.MaxText+1) + "'", api.ErrRange}, {"'" + strings.Repeat(over, 1000) + "'", api.ErrRange},
		{"'" + over, api.ErrForm}, {"'" + over + "\n'", api.ErrForm}, {"'" + over + "'a'", api.ErrForm}, {"'" + over + `\4'`, api.ErrForm}, {"'" + over + "' ", api.ErrForm},
	} {
		if v, e := Read(c.s); v != null || e != c.e {
			t.Errorf("Read(%q): %v, %d, want %d", c.s, v, e, c.e)
		}
	}
}

// P1.3: of all short texts of some bytes just those are read that are a value's text.
func TestReadShort(t *testing.T) {
	seen := map[api.Value]string{}
	try := func(s string) {
		v, e := Read(s)
		if e != api.OK {
			if e != api.ErrForm || v != null {
				t.Errorf("Read(%q): %v, %d", s, v, e)
			}
			return
		}
		if !Good(v) || Text(v) != s {
			t.Errorf("Read(%q): %v, whose text is %q", s, v, Text(v))
		}
		if other, twice := seen[v]; twice {
			t.Errorf("Read(%q) and Read(%q): %v", s, other, v)
		}
		seen[v] = s
	}
	var grow func(s string, n int)
	grow = func(s string, n int) {
		try(s)
		if n == 0 {
			return
		}
		for _, c := range []byte("'\\0257-aA\n\xff") {
			grow(s+string([]byte{c}), n-1)
		}
	}
	grow("", 5)
	want := 0
	for v := range seen {
		if v.Kind == api.Int {
			want++
		}
	}
	// Of four digits: 0, those that begin with 2, 5 or 7, of up to 5 places; with a - of up to 4.
	if ints := 1 + 3*(1+4+16+64+256) + 3*(1+4+16+64); want != ints {
		t.Errorf("%d ints are read, want %d", want, ints)
	}
}
