package shape

import (
	"math"
	"strings"

	"stillroom/api"
	"stillroom/value"
)

// dice: numbers that are the same each time.
type dice uint64

func (d *dice) throw(n int) int {
	*d = *d*6364136223846793005 + 1442695040888963407
	return int(uint64(*d) >> 33 % uint64(n))
}

func (d *dice) of(l ...string) string {
	return l[d.throw(len(l))]
}

// value: of a kind, or null.
func (d *dice) value(k api.Kind) api.Value {
	switch {
	case d.throw(10) == 0:
		return api.Value{}
	case k == api.Bool:
		return truth(d.throw(2))
	case k == api.Int:
		return num([]int{math.MinInt, -10, -1, 0, 1, 2, 3, 10, math.MaxInt}[d.throw(9)])
	}
	return text([]string{"", "x", "?", "it's", "a = ?, ?", ") OR (", "\\", "\x00\xff", strings.Repeat("?'", 10)}[d.throw(9)])
}

// sketch: a query's text without its literals: what stands around them, and their kinds.
type sketch struct {
	dice
	around []string
	kinds  []api.Kind
}

func (s *sketch) say(l ...string) {
	s.around[len(s.around)-1] += strings.Join(l, "")
}

func (s *sketch) literal(k api.Kind) {
	s.around, s.kinds = append(s.around, ""), append(s.kinds, k)
}

// filled: the text, with literals that are new each time.
func (s *sketch) filled() string {
	var b strings.Builder
	for n, k := range s.kinds {
		b.WriteString(s.around[n])
		b.WriteString(value.Text(s.value(k)))
	}
	return b.String() + s.around[len(s.kinds)]
}

// where: a predicate, so deep at most.
func (s *sketch) where(room int) {
	switch n := s.throw(8); {
	case room == 0 || n < 4:
		s.alone()
	case n == 4:
		s.say("NOT ")
		s.where(room - 1)
	default:
		s.say("(")
		s.where(room - 1)
		for range s.throw(2) + 1 {
			s.say([]string{" AND ", " OR "}[n%2])
			s.where(room - 1)
		}
		s.say(")")
	}
}

// alone: a predicate that has no others within, in any way it may be written.
func (s *sketch) alone() {
	c := asking().Columns[s.throw(4)]
	rel := s.of("=", "<>", "<", "<=", ">", ">=")
	switch s.throw(9) {
	case 0:
		s.say(s.of("TRUE", "FALSE"))
	case 1:
		s.say(c.Name, s.of(" IS NULL", " IS NOT NULL"))
	case 2:
		s.say(c.Name, rel, c.Name)
	case 3:
		s.literal(c.Kind)
		s.say(rel)
		s.literal(c.Kind)
	case 4:
		s.literal(c.Kind)
		s.say(rel, c.Name)
	case 5:
		s.say(c.Name, s.of(" BETWEEN ", " NOT BETWEEN "))
		s.literal(c.Kind)
		s.say(" AND ")
		s.literal(c.Kind)
	case 6:
		s.say(c.Name, s.of(" IN (", " NOT IN ("))
		s.literal(c.Kind)
		for range s.throw(4) {
			s.say(",")
			s.literal(c.Kind)
		}
		s.say(")")
	default:
		s.say(c.Name, rel)
		s.literal(c.Kind)
	}
}

// sketched: a query's text, its predicate so deep at most.
func sketched(d dice, room int) *sketch {
	s := &sketch{dice: d, around: []string{""}}
	group := s.throw(3) == 0
	if group {
		s.say(s.of("SELECT a FROM t", "SELECT COUNT(*), MAX(b),a FROM t"))
	} else {
		s.say(s.of("SELECT a FROM t", "SELECT * FROM t", "SELECT b,a ,d FROM t"))
	}
	if s.throw(8) > 0 {
		s.say(" WHERE ")
		s.where(room)
	}
	if group {
		s.say(s.of(" GROUP BY a", " GROUP BY d,a"))
	}
	s.say(s.of("", " ORDER BY a", " ORDER BY a DESC ,a ASC"))
	s.say(s.of("", " LIMIT 0", " LIMIT 7", " LIMIT 1000"))
	return s
}
