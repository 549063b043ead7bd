package show

import (
	"runtime/debug"
	"strconv"
	"strings"
	"testing"

	"stillroom/api"
	"stillroom/norm"
)

const many = 100000

func unlike(name string, n int) api.Pred {
	return api.Pred{Kind: api.PCompare, Column: name, Rel: api.Ne, Value: num(n)}
}

// nested: a predicate in many others, each of which around makes.
func nested(p api.Pred, around func(n int, p api.Pred) api.Pred) api.Pred {
	for n := range many {
		p = around(n, p)
	}
	return p
}

// P9, R7: normal forms of any depth.
func TestDeepForm(t *testing.T) {
	defer debug.SetMaxStack(debug.SetMaxStack(1 << 22))
	p := norm.Pred(asking(), nested(unlike("a", -1), func(n int, p api.Pred) api.Pred {
		return api.Pred{Kind: api.PAnd + n%2, Kids: []api.Pred{p, unlike([]string{"a", "d"}[n%2], n)}}
	}))
	var front, back strings.Builder
	for n := many - 1; n > 0; n-- {
		if n%2 == 0 {
			front.WriteString("a <> " + strconv.Itoa(n) + " AND (")
			back.WriteString(")")
		} else {
			front.WriteString("d <> " + strconv.Itoa(n) + " OR ")
		}
	}
	want := front.String() + "a <> -1 AND a <> 0" + back.String()
	if got := Pred(p); got != want {
		t.Errorf("Pred of a deep one: %d bytes, want %d", len(got), len(want))
	}
	if got := Query(api.Query{All: true, Table: "t", Where: p, Limit: -1}); got != "SELECT * FROM t WHERE "+want {
		t.Errorf("Query of a deep one: %d bytes", len(got))
	}
}

// P9: NOTs, and ANDs in one another, of any depth.
func TestDeep(t *testing.T) {
	defer debug.SetMaxStack(debug.SetMaxStack(1 << 22))
	p := nested(unlike("a", 1), func(n int, p api.Pred) api.Pred { return api.Pred{Kind: api.PNot, Kids: []api.Pred{p}} })
	if got := Pred(p); got != strings.Repeat("NOT ", many)+"a <> 1" {
		t.Errorf("Pred of many NOTs: %d bytes", len(got))
	}
	p = nested(unlike("a", 1), func(n int, p api.Pred) api.Pred { return api.Pred{Kind: api.PAnd, Kids: []api.Pred{p, unlike("d", 2)}} })
	if got := Pred(p); got != strings.Repeat("(", many-1)+"a <> 1 AND d <> 2"+strings.Repeat(") AND d <> 2", many-1) {
		t.Errorf("Pred of many ANDs: %d bytes", len(got))
	}
}

// P9: many Kids.
func TestWide(t *testing.T) {
	p := api.Pred{Kind: api.POr}
	var l []string
	for n := range many {
		p.Kids = append(p.Kids, unlike("a", n))
		l = append(l, "a <> "+strconv.Itoa(n))
	}
	if got := Pred(norm.Pred(asking(), p)); got != strings.Join(l, " OR ") {
		t.Errorf("Pred of a wide one: %d bytes", len(got))
	}
}
