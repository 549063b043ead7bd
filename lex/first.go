package lex

import (
	"strings"

	"stillroom/api"
	"stillroom/schema"
	"stillroom/value"
)

// first: the kind of the token that a text, which isn't empty, begins with, and how many bytes it has.
func first(s string) (int, int, error) {
	switch c := s[0]; {
	case c == '\'':
		n := quoted(s)
		return api.TText, n, literal(s[:n])
	case c == '-':
		n := 1 + run(s[1:], part)
		return api.TNum, n, literal(s[:n])
	case digit(c):
		n := run(s, part)
		return api.TNum, n, literal(s[:n])
	case part(c):
		n := run(s, part)
		kind, err := named(s[:n])
		return kind, n, err
	}
	n, err := sign(s)
	return api.TSign, n, err
}

// run: how many bytes at the front of a text fit.
func run(s string, fits func(byte) bool) int {
	for n := range len(s) {
		if !fits(s[n]) {
			return n
		}
	}
	return len(s)
}

// quoted: how many bytes a text between quotes has; if none closes it, all.
func quoted(s string) int {
	n := 1
	for n < len(s) {
		if s[n] != '\'' {
			n++
			continue
		}
		if !strings.HasPrefix(s[n:], "''") {
			return n + 1
		}
		n += 2
	}
	return n
}

// literal: what is wrong with a value's text.
func literal(s string) error {
	switch _, e := value.Read(s); e {
	case api.OK:
		return nil
	case api.ErrRange:
		return errGreat
	}
	return errNone
}

// named: whether letters, digits and _ are a word or a name.
func named(s string) (int, error) {
	switch {
	case Word(s):
		return api.TWord, nil
	case schema.Name(s):
		return api.TName, nil
	}
	return 0, errNone
}

// sign: how many bytes the sign has with which a text begins.
func sign(s string) (int, error) {
	for _, two := range []string{"<>", "<=", ">="} {
		if strings.HasPrefix(s, two) {
			return len(two), nil
		}
	}
	if strings.IndexByte("=<>*,()", s[0]) < 0 {
		return 0, errNone
	}
	return 1, nil
}

func blank(c byte) bool {
	return c == 9 || c == 10 || c == 13 || c == 32
}

func digit(c byte) bool {
	return '0' <= c && c <= '9'
}

// part: may it stand within a word or a name?
func part(c byte) bool {
	return 'a' <= c && c <= 'z' || 'A' <= c && c <= 'Z' || digit(c) || c == '_'
}
