package value

import (
	"strconv"
	"strings"

	"stillroom/api"
)

// The texts of the values that aren't written digit by digit, or byte by byte.
const (
	textNull = "NULL"
	textNo   = "FALSE"
	textYes  = "TRUE"
)

// digits: of a byte that isn't written as itself.
const digits = "0123456789abcdef"

// Text: a value's.
func Text(v api.Value) string {
	switch v.Kind {
	case api.Null:
		return textNull
	case api.Bool:
		if v.Num == 0 {
			return textNo
		}
		return textYes
	case api.Int:
		return strconv.Itoa(v.Num)
	case api.Text:
		return quote(v.Text)
	}
	return ""
}

// quote writes a text between two quotes.
func quote(s string) string {
	var b strings.Builder
	b.WriteByte('\'')
	for i := range len(s) {
		c := s[i]
		switch {
		case c == '\'':
			b.WriteString("''")
		case readable(c):
			b.WriteByte(c)
		default:
			b.WriteByte('\\')
			b.WriteByte(digits[c>>4])
			b.WriteByte(digits[c&15])
		}
	}
	b.WriteByte('\'')
	return b.String()
}

// readable: is a byte written without a backslash?
func readable(c byte) bool {
	return c >= 32 && c <= 126 && c != '\\'
}

// Read: a text's value.
func Read(s string) (api.Value, api.Errno) {
	switch s {
	case textNull:
		return api.Value{}, api.OK
	case textNo:
		return api.Value{Kind: api.Bool}, api.OK
	case textYes:
		return api.Value{Kind: api.Bool, Num: 1}, api.OK
	}
	if strings.HasPrefix(s, "'") {
		return readText(s[1:])
	}
	return readInt(s)
}

// readInt reads an int's digits.
func readInt(s string) (api.Value, api.Errno) {
	if !written(s) {
		return api.Value{}, api.ErrForm
	}
	n, err := strconv.Atoi(s)
	if err != nil {
		// What is written rightly has nothing else wrong with it.
		return api.Value{}, api.ErrRange
	}
	return number(n), api.OK
}

// written: is a text what an int would be written as, of whatever size?
func written(s string) bool {
	all := strings.TrimPrefix(s, "-")
	if all == "" {
		return false
	}
	if all[0] == '0' {
		return s == "0"
	}
	for i := range len(all) {
		if all[i] < '0' || all[i] > '9' {
			return false
		}
	}
	return true
}

// readText reads what stands behind the first quote.
func readText(s string) (api.Value, api.Errno) {
	var b []byte
	for s != "'" {
		c, n := first(s)
		if n == 0 {
			return api.Value{}, api.ErrForm
		}
		// One byte too many tells as much as all of them.
		if len(b) <= api.MaxText {
			b = append(b, c)
		}
		s = s[n:]
	}
	if len(b) > api.MaxText {
		return api.Value{}, api.ErrRange
	}
	return api.Value{Kind: api.Text, Text: string(b)}, api.OK
}

// first: the byte that stands first in a quoted text, and in how many bytes it is written (0: there is none).
func first(s string) (byte, int) {
	switch {
	case s == "":
		return 0, 0
	case s[0] == '\\':
		return escaped(s[1:])
	case strings.HasPrefix(s, "''"):
		return '\'', 2
	case s[0] == '\'' || !readable(s[0]):
		return 0, 0
	}
	return s[0], 1
}

// escaped: likewise, of what stands behind a backslash.
func escaped(s string) (byte, int) {
	if len(s) < 2 {
		return 0, 0
	}
	high, low := strings.IndexByte(digits, s[0]), strings.IndexByte(digits, s[1])
	if high < 0 || low < 0 {
		return 0, 0
	}
	c := byte(high<<4 | low)
	if readable(c) {
		return 0, 0
	}
	return c, 3
}
