package lex

import (
	"regexp"
	"slices"
	"strconv"
	"strings"

	"stillroom/api"
)

// kinds: how each kind of tokens is written, as the chapter has it; the first that fits a text's beginning is its one.
var kinds = []struct {
	kind int
	form *regexp.Regexp
}{
	{api.TWord, regexp.MustCompile(`^(SELECT|FROM|WHERE|GROUP|ORDER|BY|LIMIT|ASC|DESC|AND|OR|NOT|IS|IN|BETWEEN|NULL|TRUE|FALSE|COUNT|SUM|MIN|MAX)\b`)},
	{api.TName, regexp.MustCompile(`^[a-z][a-z0-9_]{0,19}\b`)},
	{api.TNum, regexp.MustCompile(`^(0|-?[1-9][0-9]*)\b`)},
	{api.TText, regexp.MustCompile(`^'([ -&(-\[\]-~]|''|\\([01][0-9a-f]|5c|7f|[89a-f][0-9a-f]))*'`)},
	{api.TSign, regexp.MustCompile(`^(<>|<=|>=|[=<>*,()])`)},
}

// great: is a token one of a value that is too great, or too long?
func great(t api.Token) bool {
	switch t.Kind {
	case api.TNum:
		_, err := strconv.ParseInt(t.Text, 10, 64)
		return err != nil
	case api.TText:
		inside := strings.ReplaceAll(t.Text[1:len(t.Text)-1], "''", "'")
		return len(inside)-2*strings.Count(inside, `\`) > api.MaxText
	}
	return false
}

// model: what Lex has to answer.
func model(text string) ([]api.Token, int, api.Errno) {
	if len(text) > api.MaxQuery {
		return nil, api.MaxQuery, api.ErrLong
	}
	var l []api.Token
	for at := 0; ; {
		rest := strings.TrimLeft(text[at:], "\t\n\r ")
		at = len(text) - len(rest)
		if rest == "" {
			return append(l, api.Token{Kind: api.TEnd, At: at}), 0, api.OK
		}
		t := begins(rest)
		t.At = at
		switch {
		case t.Kind == api.TEnd || t.Kind == api.TText && strings.HasPrefix(rest[len(t.Text):], "'"):
			return nil, at, api.ErrLex
		case great(t):
			return nil, at, api.ErrRange
		case len(l) == api.MaxTokens:
			return nil, at, api.ErrFull
		}
		l = append(l, t)
		at += len(t.Text)
	}
}

// begins: the token that a text begins with; TEnd: none.
func begins(s string) api.Token {
	for _, k := range kinds {
		if f := k.form.FindString(s); f != "" {
			return api.Token{Kind: k.kind, Text: f}
		}
	}
	return api.Token{}
}

// same: are these answers the same?
func same(a []api.Token, at int, e api.Errno, b []api.Token, bt int, be api.Errno) bool {
	return slices.Equal(a, b) && at == bt && e == be
}
