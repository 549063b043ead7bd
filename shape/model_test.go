package shape

import (
	"slices"
	"testing"

	"stillroom/api"
	"stillroom/lex"
	"stillroom/parse"
	"stillroom/show"
	"stillroom/value"
)

// cut: the shape of a text, by its tokens; none of a text that is more than may be.
func cut(s string) (Shape, bool) {
	l, _, e := lex.Lex(s)
	if e != api.OK {
		return Shape{}, false
	}
	var out Shape
	from := 0
	for n, x := range l {
		v, e := value.Read(x.Text)
		if e != api.OK || !literal(l, n) {
			continue
		}
		out.Text += s[from:x.At] + "?"
		out.Params = append(out.Params, v)
		from = x.At + len(x.Text)
	}
	out.Text += s[from:]
	return out, true
}

// literal: is the nth token, which is a value's text, one of a predicate?
func literal(l []api.Token, n int) bool {
	x := l[n]
	before, behind := l[n-1].Text, l[n+1].Text
	switch {
	case x.Kind == api.TNum:
		return before != "LIMIT"
	case x.Kind == api.TText:
		return true
	case x.Text == "NULL":
		return before != "IS" && (before != "NOT" || l[n-2].Text != "IS")
	}
	signs := []string{"=", "<>", "<", "<=", ">", ">="}
	return slices.Contains(signs, before) || slices.Contains(signs, behind) || before == "," || before == "(" && l[n-2].Text == "IN"
}

// fits: a query's shape is as the model has it (P16.1), and is filled to its text (P16.2), even to one that is more than may be.
func fits(t *testing.T, q api.Query) bool {
	t.Helper()
	s, whole := Of(q), show.Query(q)
	if got, e := Fill(s); e != api.OK || got != whole {
		t.Fatalf("Fill of %s, %v: %s, %d, want %s", s.Text, s.Params, got, e, whole)
	}
	want, ok := cut(whole)
	if ok && (s.Text != want.Text || !slices.Equal(s.Params, want.Params)) {
		t.Fatalf("Of %s: %s, %v, want %s, %v", whole, s.Text, s.Params, want.Text, want.Params)
	}
	return ok
}

// P16.1, P16.2: any queries, and their normal forms.
func TestAny(t *testing.T) {
	done := 0
	for n := range 8000 {
		s := sketched(dice(n), n%5)
		q, _, e := parse.Parse(s.filled())
		if e == api.ErrLong || e == api.ErrFull {
			continue
		}
		if e != api.OK {
			t.Fatalf("Parse(%s): %d", s.filled(), e)
		}
		if fits(t, q) && fits(t, formed(t, q)) {
			done++
		}
	}
	if done < 6000 {
		t.Errorf("just %d queries", done)
	}
}

// P16.2: queries that differ in literals alone have one shape's text, and go to one node.
func TestAlike(t *testing.T) {
	apart := 0
	for n := range 4000 {
		s := sketched(dice(n), n%5)
		q, _, e := parse.Parse(s.filled())
		p, _, f := parse.Parse(s.filled())
		if e != api.OK || f != api.OK {
			continue
		}
		if Of(q).Text != Of(p).Text {
			t.Fatalf("%s has the shape %s, %s %s", show.Query(q), Of(q).Text, show.Query(p), Of(p).Text)
		}
		for k := 1; k <= api.MaxNodes; k++ {
			x, e := Route(q, k)
			y, f := Route(p, k)
			if x != y || e != api.OK || f != api.OK || uint64(x) != summed(Of(q).Text)%uint64(k) {
				t.Fatalf("of %d, %s goes to %d, %s to %d", k, show.Query(q), x, show.Query(p), y)
			}
		}
		if !parse.Same(q, p) {
			apart++
		}
	}
	if apart < 2000 {
		t.Errorf("just %d pairs", apart)
	}
}
