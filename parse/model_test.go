package parse

import (
	"strconv"
	"strings"

	"stillroom/api"
	"stillroom/lex"
)

// FULL and DEEP stand in the rules where the next one would be one too many, or too deep.
const full, deep = "FULL", "DEEP"

// rules: what a part of the grammar may be, one a line, as the chapter's table has it; of a terminal none. A part's numbers stand behind it: how many more there may be, how deep it is.
func rules(part string) []string {
	name, rest, _ := strings.Cut(part, ":")
	switch name {
	case "query":
		return lines("SELECT what FROM name where group order limit END")
	case "what":
		return lines("*|item more:item:7")
	case "where":
		return lines("|WHERE any:1")
	case "group":
		return lines("|GROUP BY name more:name:7")
	case "order":
		return lines("|ORDER BY key more:key:7")
	case "limit":
		return lines("|LIMIT num")
	case "item":
		return lines("name|COUNT ( * )|COUNT ( name )|SUM ( name )|MIN ( name )|MAX ( name )")
	case "key":
		return lines("item|item ASC|item DESC")
	case "more":
		return more(rest)
	case "any", "all", "ors", "ands", "one":
		n, _ := strconv.Atoi(rest)
		return ones(name, n)
	case "rel":
		return lines("=|<>|<|<=|>|>=")
	case "literal":
		return lines("num|text|NULL|TRUE|FALSE")
	}
	return nil
}

func lines(s string) []string {
	return strings.Split(s, "|")
}

// more: what may follow the first of a list, of its things' name and how many more there may be.
func more(rest string) []string {
	thing, count, _ := strings.Cut(rest, ":")
	n, _ := strconv.Atoi(count)
	if n == 0 {
		return lines("|, " + full)
	}
	return lines("|, " + thing + " more:" + thing + ":" + strconv.Itoa(n-1))
}

// ones: the rules of predicates, so deep.
func ones(name string, n int) []string {
	here, within := ":"+strconv.Itoa(n), ":"+strconv.Itoa(n+1)
	switch name {
	case "any":
		return lines("all" + here + " ors" + here)
	case "ors":
		return lines("|OR all" + here + " ors" + here)
	case "all":
		return lines("one" + here + " ands" + here)
	case "ands":
		return lines("|AND one" + here + " ands" + here)
	}
	if n > api.MaxDeep {
		return lines(deep)
	}
	return lines("NOT one" + within + "|( any" + within + " )|name rel name|name rel literal|name IS NULL|name IS NOT NULL|" +
		"name IN ( literal more:literal:11 )|name NOT IN ( literal more:literal:11 )|name BETWEEN literal AND literal|" +
		"name NOT BETWEEN literal AND literal|literal rel name|literal rel literal|TRUE|FALSE")
}

// reading: all ways in which what was read may go on: parts with blanks between.
type reading map[string]bool

// begin: of nothing read.
func begin() reading {
	l := reading{}
	l.add("query")
	return l
}

// add: one way to go on, its first part told by terminals.
func (l reading) add(way string) {
	way = strings.TrimSpace(way)
	first, rest, _ := strings.Cut(way, " ")
	to := rules(first)
	for _, r := range to {
		l.add(r + " " + rest)
	}
	if to == nil {
		l[way] = true
	}
}

// fits: is a token the terminal?
func fits(t api.Token, terminal string) bool {
	switch t.Kind {
	case api.TName:
		return terminal == "name"
	case api.TNum:
		return terminal == "num"
	case api.TText:
		return terminal == "text"
	case api.TEnd:
		return terminal == "END"
	}
	return t.Text == terminal
}

// read: a token, the one behind prev; what is wrong with it.
func (l reading) read(prev, t api.Token) (reading, api.Errno) {
	next := reading{}
	found := map[string]bool{}
	for way := range l {
		first, rest, _ := strings.Cut(way, " ")
		found[first] = true
		if fits(t, first) {
			next.add(rest)
		}
	}
	n, _ := strconv.Atoi(t.Text)
	switch {
	case found[deep]:
		return nil, api.ErrDeep
	case found[full]:
		return nil, api.ErrFull
	case prev.Text == "LIMIT" && t.Kind == api.TNum && (n < 0 || n > 1000):
		return nil, api.ErrRange
	case len(next) == 0:
		return nil, api.ErrSyntax
	}
	return next, api.OK
}

// model: what is wrong with a text, and where.
func model(text string) (int, api.Errno) {
	tokens, at, e := lex.Lex(text)
	if e != api.OK {
		return at, e
	}
	l, prev := begin(), api.Token{}
	for _, t := range tokens {
		if l, e = l.read(prev, t); e != api.OK {
			return t.At, e
		}
		prev = t
	}
	return 0, api.OK
}
