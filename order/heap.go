package order

import (
	"container/heap"
	"slices"
)

// backward: a heap of lines whose last one, by the order, is on top, as that is the one that goes when another one comes ahead of it.
type backward struct {
	falls []bool
	lines []Line
}

// first: the first n of lines, in a heap.
func first(falls []bool, l []Line, n int) *backward {
	h := &backward{falls: falls}
	for _, x := range l {
		heap.Push(h, x)
		if h.Len() > n {
			heap.Pop(h)
		}
	}
	return h
}

// drain takes all lines out, and answers them in order, apart from what they were made of.
func (h *backward) drain() []Line {
	out := make([]Line, h.Len())
	for n := range slices.Backward(out) {
		out[n] = apart(heap.Pop(h).(Line))
	}
	return out
}

func (h *backward) Len() int {
	return len(h.lines)
}

func (h *backward) Less(i, j int) bool {
	return Compare(h.falls, h.lines[i], h.lines[j]) > 0
}

func (h *backward) Swap(i, j int) {
	h.lines[i], h.lines[j] = h.lines[j], h.lines[i]
}

func (h *backward) Push(x any) {
	h.lines = append(h.lines, x.(Line))
}

func (h *backward) Pop() any {
	end := len(h.lines) - 1
	x := h.lines[end]
	h.lines = h.lines[:end]
	return x
}
