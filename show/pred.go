package show

import (
	"slices"

	"stillroom/api"
	"stillroom/logic"
)

// part: a text, and the predicate behind it (nil: none).
type part struct {
	text string
	pred *api.Pred
}

// pred writes a predicate.
func (w *writer) pred(p api.Pred) {
	// What is left is kept in a list: calls within calls wouldn't do for Kids of any depth. Its end comes first.
	left := []part{{pred: &p}}
	for len(left) > 0 {
		last := left[len(left)-1]
		left = left[:len(left)-1]
		w.say(last.text)
		if last.pred == nil {
			continue
		}
		switch last.pred.Kind {
		case api.PAnd, api.POr, api.PNot:
			left = append(left, kids(last.pred)...)
		default:
			w.alone(last.pred)
		}
	}
}

// kids: the parts of an AND, an OR or a NOT, the last one first.
func kids(p *api.Pred) []part {
	var out []part
	for n := range p.Kids {
		kid, before := &p.Kids[n], word(p.Kind, n)
		if bracketed(p.Kind, kid.Kind) {
			out = append(out, part{before + "(", kid}, part{text: ")"})
		} else {
			out = append(out, part{before, kid})
		}
	}
	slices.Reverse(out)
	return out
}

// word: what stands ahead of the nth Kid.
func word(kind, n int) string {
	switch {
	case kind == api.PNot:
		return "NOT "
	case n == 0:
		return ""
	case kind == api.PAnd:
		return " AND "
	}
	return " OR "
}

// bracketed: does a Kid stand in brackets?
func bracketed(kind, kid int) bool {
	return kid == api.POr || kid == api.PAnd && kind != api.POr
}

// alone writes a predicate that has no Kids.
func (w *writer) alone(p *api.Pred) {
	switch p.Kind {
	case api.PTrue:
		w.say("TRUE")
	case api.PFalse:
		w.say("FALSE")
	case api.PCompare:
		w.say(p.Column, sign(p.Rel), w.literal(p.Value))
	case api.PColumns:
		w.say(p.Column, sign(p.Rel), p.Other)
	case api.PConst:
		w.say(w.literal(p.Value), sign(p.Rel))
		w.literals(p.List)
	case api.PIn:
		w.say(p.Column, " IN (")
		w.literals(p.List)
		w.say(")")
	case api.PNull:
		w.say(p.Column, " IS NULL")
	case api.PSome:
		w.say(p.Column, " IS NOT NULL")
	}
}

// literals writes a list of them.
func (w *writer) literals(l []api.Value) {
	w.list(len(l), func(n int) { w.say(w.literal(l[n])) })
}

// sign: a comparison's, with its blanks.
func sign(rel api.Rel) string {
	return " " + logic.Sign(rel) + " "
}
