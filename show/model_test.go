package show

import (
	"slices"
	"strconv"
	"strings"

	"stillroom/api"
	"stillroom/value"
)

// spelt: the words and signs of a query, as the grammar has them.
func spelt(q api.Query) []string {
	l := []string{"SELECT", "*"}
	if !q.All {
		l = append(l[:1], commas(q.Items, speltItem)...)
	}
	l = append(l, "FROM", q.Table)
	if q.Where.Kind != 0 {
		l = append(append(l, "WHERE"), speltPred(q.Where)...)
	}
	if len(q.Group) > 0 {
		l = append(append(l, "GROUP", "BY"), commas(q.Group, speltItem)...)
	}
	if len(q.Order) > 0 {
		l = append(append(l, "ORDER", "BY"), commas(q.Order, speltKey)...)
	}
	if q.Limit != -1 {
		l = append(l, "LIMIT", strconv.Itoa(q.Limit))
	}
	return l
}

// commas: those of each of a list, with commas between.
func commas[T any](l []T, each func(T) []string) []string {
	var out []string
	for _, x := range l {
		out = append(append(out, each(x)...), ",")
	}
	return out[:len(out)-1]
}

func speltItem(x api.Item) []string {
	inside := x.Column
	if x.Agg == api.Plain {
		return []string{inside}
	}
	if x.Agg == api.Rows {
		inside = "*"
	}
	return []string{[]string{"", "COUNT", "COUNT", "SUM", "MIN", "MAX"}[x.Agg], "(", inside, ")"}
}

func speltKey(k api.Key) []string {
	if k.Desc {
		return append(speltItem(k.Item), "DESC")
	}
	return speltItem(k.Item)
}

func speltValue(v api.Value) []string {
	return []string{value.Text(v)}
}

// speltPred: those of a predicate, by calls within calls.
func speltPred(p api.Pred) []string {
	sign := []string{"", "=", "<>", "<", "<=", ">", ">="}[p.Rel]
	switch p.Kind {
	case api.PTrue:
		return []string{"TRUE"}
	case api.PFalse:
		return []string{"FALSE"}
	case api.PCompare:
		return []string{p.Column, sign, value.Text(p.Value)}
	case api.PColumns:
		return []string{p.Column, sign, p.Other}
	case api.PConst:
		return []string{value.Text(p.Value), sign, value.Text(p.List[0])}
	case api.PIn:
		return slices.Concat([]string{p.Column, "IN", "("}, commas(p.List, speltValue), []string{")"})
	case api.PNull:
		return []string{p.Column, "IS", "NULL"}
	case api.PSome:
		return []string{p.Column, "IS", "NOT", "NULL"}
	}
	var out []string
	for n, kid := range p.Kids {
		if n > 0 || p.Kind == api.PNot {
			out = append(out, map[int]string{api.PAnd: "AND", api.POr: "OR", api.PNot: "NOT"}[p.Kind])
		}
		if held(p, kid) {
			out = append(append(append(out, "("), speltPred(kid)...), ")")
		} else {
			out = append(out, speltPred(kid)...)
		}
	}
	return out
}

// held: does a Kid stand in brackets?
func held(p, kid api.Pred) bool {
	switch kid.Kind {
	case api.POr:
		return true
	case api.PAnd:
		return p.Kind != api.POr
	}
	return false
}

// laid: words and signs as a text.
func laid(l []string) string {
	var b strings.Builder
	for n, s := range l {
		if n > 0 && apart(l[n-1], s) {
			b.WriteByte(' ')
		}
		b.WriteString(s)
	}
	return b.String()
}

// apart: does a blank stand between two?
func apart(before, s string) bool {
	switch {
	case s == ",", s == ")", before == "(":
		return false
	case s == "(":
		return !slices.Contains([]string{"COUNT", "SUM", "MIN", "MAX"}, before)
	}
	return true
}

// deep: how many ones of a predicate's text stand in one another.
func deep(p api.Pred) int {
	most := 0
	for _, kid := range p.Kids {
		n := deep(kid)
		if p.Kind == api.PNot {
			n++
		}
		if held(p, kid) {
			n++
		}
		most = max(most, n)
	}
	return max(1, most)
}
