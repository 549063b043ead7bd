package parse

import (
	"stillroom/api"
	"stillroom/logic"
	"stillroom/value"
)

// reader: a text's tokens, as they are read.
type reader struct {
	rest []api.Token // those to come, the last of them TEnd
	deep int         // how many ones stand around the next one
	err  error       // the first error: it stays
}

// wrong: an error at the token that comes. Then TEnd alone is left, so that all lists end, and whatever is asked for is missing.
func (r *reader) wrong(e api.Errno) {
	if r.err == nil {
		r.err = fault{r.comes().At, refusal(e)}
	}
	r.rest = r.rest[len(r.rest)-1:]
}

// comes: the next token.
func (r *reader) comes() api.Token {
	return r.rest[0]
}

// pass: the token that comes is read; it isn't TEnd.
func (r *reader) pass() {
	r.rest = r.rest[1:]
}

// took: whether a word or sign comes; if so, it is read.
func (r *reader) took(s string) bool {
	if r.comes().Text != s {
		return false
	}
	r.pass()
	return true
}

// need reads a word or sign that may not be missing.
func (r *reader) need(s string) {
	if !r.took(s) {
		r.wrong(api.ErrSyntax)
	}
}

// end: no token may be left.
func (r *reader) end() {
	if r.comes().Kind != api.TEnd {
		r.wrong(api.ErrSyntax)
	}
}

// named: whether a name comes.
func (r *reader) named() bool {
	return r.comes().Kind == api.TName
}

// name: the one that comes.
func (r *reader) name() string {
	if !r.named() {
		r.wrong(api.ErrSyntax)
		return ""
	}
	s := r.comes().Text
	r.pass()
	return s
}

// literal: the one that comes.
func (r *reader) literal() api.Value {
	// Names, signs, other words and TEnd are no value's text.
	v, e := value.Read(r.comes().Text)
	if e != api.OK {
		r.wrong(api.ErrSyntax)
		return api.Value{}
	}
	r.pass()
	return v
}

// rel: the comparison whose sign comes; 0: none.
func (r *reader) rel() api.Rel {
	for rel := api.Eq; rel <= api.Ge; rel++ {
		if r.took(logic.Sign(rel)) {
			return rel
		}
	}
	return 0
}

// list reads things with commas between, at most so many; next reads one of them.
func (r *reader) list(most int, next func()) {
	for n := 0; n == 0 || r.took(","); n++ {
		if n == most {
			r.wrong(api.ErrFull)
			return
		}
		next()
	}
}

// parts: predicates with a word between, each read by part, as one of a kind; a part that is alone is itself.
func (r *reader) parts(kind int, word string, part func() api.Pred) api.Pred {
	at := r.comes().At
	l := []api.Pred{part()}
	for r.took(word) {
		l = append(l, part())
	}
	if len(l) == 1 {
		return l[0]
	}
	return api.Pred{Kind: kind, Kids: l, At: at}
}
