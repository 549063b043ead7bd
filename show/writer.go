package show

import (
	"strconv"
	"strings"

	"stillroom/api"
)

// writer: a text on the way.
type writer struct {
	strings.Builder
	literal func(api.Value) string // how one is written
}

// say writes some texts, one behind the other.
func (w *writer) say(l ...string) {
	for _, s := range l {
		w.WriteString(s)
	}
}

// list writes so many things with commas between; one writes the nth of them.
func (w *writer) list(most int, one func(n int)) {
	for n := range most {
		if n > 0 {
			w.say(", ")
		}
		one(n)
	}
}

// query writes a whole one.
func (w *writer) query(q api.Query) {
	w.say("SELECT ")
	if q.All {
		w.say("*")
	} else {
		w.items(q.Items)
	}
	w.say(" FROM ", q.Table)
	if q.Where.Kind != 0 {
		w.say(" WHERE ")
		w.pred(q.Where)
	}
	if len(q.Group) > 0 {
		w.say(" GROUP BY ")
		w.items(q.Group)
	}
	if len(q.Order) > 0 {
		w.say(" ORDER BY ")
		w.keys(q.Order)
	}
	if q.Limit >= 0 {
		w.say(" LIMIT ", strconv.Itoa(q.Limit))
	}
}

// items writes a list of them.
func (w *writer) items(l []api.Item) {
	w.list(len(l), func(n int) { w.say(item(l[n])) })
}

// keys writes a list of them.
func (w *writer) keys(l []api.Key) {
	w.list(len(l), func(n int) {
		w.say(item(l[n].Item))
		if l[n].Desc {
			w.say(" DESC")
		}
	})
}

// item: the text of one.
func item(x api.Item) string {
	switch x.Agg {
	case api.Rows:
		return "COUNT(*)"
	case api.Count:
		return "COUNT(" + x.Column + ")"
	case api.Sum:
		return "SUM(" + x.Column + ")"
	case api.Min:
		return "MIN(" + x.Column + ")"
	case api.Max:
		return "MAX(" + x.Column + ")"
	}
	return x.Column
}
