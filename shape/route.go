package shape

import "stillroom/api"

// A text's sum begins with first, and is multiplied by factor for each byte.
const (
	first  uint64 = 14695981039346656037
	factor uint64 = 1099511628211
)

// Sum: of a text.
func Sum(text string) uint64 {
	sum := first
	for n := range len(text) {
		sum = (sum ^ uint64(text[n])) * factor
	}
	return sum
}

// Node: a text's, of n.
func Node(text string, n int) (int, api.Errno) {
	if n < 1 || n > api.MaxNodes {
		return 0, api.ErrRange
	}
	return int(Sum(text) % uint64(n)), api.OK
}

// Route: a query's, of n.
func Route(q api.Query, n int) (int, api.Errno) {
	return Node(Of(q).Text, n)
}
