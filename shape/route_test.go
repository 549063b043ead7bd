package shape

import (
	"hash/fnv"
	"math"
	"strconv"
	"strings"
	"testing"

	"stillroom/api"
)

// summed: the sum of a text, as the library has it.
func summed(s string) uint64 {
	h := fnv.New64a()
	h.Write([]byte(s))
	return h.Sum64()
}

// P16.1: sums that are known.
func TestSum(t *testing.T) {
	for s, want := range map[string]uint64{"": 14695981039346656037, "a": 12638187200555641996, "b": 0xaf63df4c8601f1a5, "foobar": 0x85944171f73967e8} {
		if got := Sum(s); got != want {
			t.Errorf("Sum(%q): %d, want %d", s, got, want)
		}
	}
}

// P16.1: sums of all bytes, alone and one behind the other.
func TestSumBytes(t *testing.T) {
	var all []byte
	for c := range 256 {
		one := string([]byte{byte(c)})
		all = append(all, byte(c))
		for _, s := range []string{one, one + one, "a" + one, one + "a", string(all), strings.Repeat(one, 5000)} {
			if got, want := Sum(s), summed(s); got != want {
				t.Errorf("Sum(%q): %d, want %d", s, got, want)
			}
		}
	}
}

// P16.1: a text's node, of as many as there may be; each of them is one's.
func TestNode(t *testing.T) {
	for n := 1; n <= api.MaxNodes; n++ {
		came := make([]int, n)
		for k := range 400 {
			s := strings.Repeat("\xe4 ", k%3) + strconv.Itoa(k)
			got, e := Node(s, n)
			if want := summed(s) % uint64(n); e != api.OK || uint64(got) != want {
				t.Fatalf("Node(%q, %d): %d, %d, want %d", s, n, got, e, want)
			}
			came[got]++
		}
		for k, c := range came {
			if c < 50 {
				t.Errorf("of %d nodes %d has %d texts of 400", n, k, c)
			}
		}
	}
	if got, e := Node("", 4); got != 1 || e != api.OK {
		t.Errorf("Node of the empty text: %d, %d", got, e)
	}
}

// P16.1: no nodes, too many, a number below 0.
func TestNodeRange(t *testing.T) {
	q := read(t, "SELECT a FROM t WHERE a = 1")
	for _, n := range []int{0, -1, -4, api.MaxNodes + 1, math.MinInt, math.MaxInt, 1 << 32, 1<<32 + 1} {
		for _, s := range []string{"", "a", "foobar"} {
			if got, e := Node(s, n); got != 0 || e != api.ErrRange {
				t.Errorf("Node(%q, %d): %d, %d", s, n, got, e)
			}
		}
		if got, e := Route(q, n); got != 0 || e != api.ErrRange {
			t.Errorf("Route(%d): %d, %d", n, got, e)
		}
	}
}

// P16.1: a query goes where its shape's text does, not where its own would.
func TestRoute(t *testing.T) {
	for _, c := range [][2]string{
		{"SELECT a FROM t WHERE a>=5 AND b IN('x','y')", "SELECT a FROM t WHERE a >= ? AND b IN (?, ?)"},
		{"SELECT*FROM t", "SELECT * FROM t"},
		{"SELECT b FROM t WHERE 1=2 OR a IS NULL LIMIT 1", "SELECT b FROM t WHERE ? = ? OR a IS NULL LIMIT 1"},
		{"SELECT COUNT(*) FROM t WHERE c=TRUE AND TRUE", "SELECT COUNT(*) FROM t WHERE c = ? AND TRUE"},
	} {
		for n := 1; n <= api.MaxNodes; n++ {
			if got, e := Route(read(t, c[0]), n); e != api.OK || uint64(got) != summed(c[1])%uint64(n) {
				t.Errorf("Route of %s, of %d: %d, %d", c[0], n, got, e)
			}
		}
	}
}

// P16.2: what differs in more than literals has another shape.
func TestUnlike(t *testing.T) {
	first := map[string]string{}
	for _, s := range []string{
		"a FROM t", "b FROM t", "a FROM u", "* FROM t", "COUNT(*) FROM t", "a FROM t LIMIT 1", "a FROM t LIMIT 2", "a FROM t GROUP BY a", "a FROM t ORDER BY a", "a FROM t ORDER BY a DESC",
		"a FROM t WHERE a = 1", "a FROM t WHERE b = 1", "a FROM t WHERE a <> 1", "a FROM t WHERE a < 1", "a FROM t WHERE 1 < a", "a FROM t WHERE a = b", "a FROM t WHERE 1 = 2", "a FROM t WHERE 1 < 2",
		"a FROM t WHERE a IN (1)", "a FROM t WHERE a IN (1, 2)", "a FROM t WHERE a IN (1, 2, 3)", "a FROM t WHERE NOT a IN (1)", "a FROM t WHERE a IS NULL", "a FROM t WHERE a IS NOT NULL", "a FROM t WHERE TRUE", "a FROM t WHERE FALSE",
		"a FROM t WHERE a = 1 AND a = 2", "a FROM t WHERE a = 1 OR a = 2", "a FROM t WHERE a = 1 AND (a = 2 OR a = 3)", "a FROM t WHERE a = 1 AND a = 2 OR a = 3",
	} {
		got := Of(read(t, "SELECT "+s)).Text
		if other, ok := first[got]; ok {
			t.Errorf("%s and %s have the shape %s", other, s, got)
		}
		first[got] = s
	}
}
