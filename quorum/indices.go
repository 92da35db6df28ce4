package quorum

import (
	"container/heap"
	"slices"

	"posthorn/api"
)

// indices are a heap of the library, from which the greatest one is taken first.
type indices []api.At

// indicesOf is a heap of those that are of members.
func indicesOf(l []int, have []api.At) *indices {
	h := new(indices)
	for _, at := range have {
		if slices.Contains(l, at.Node) {
			heap.Push(h, at)
		}
	}
	return h
}

// take takes the greatest one.
func (h *indices) take() api.At { return heap.Pop(h).(api.At) }

func (h indices) Len() int { return len(h) }

func (h indices) Less(i, j int) bool { return h[i].Index > h[j].Index }

func (h indices) Swap(i, j int) { h[i], h[j] = h[j], h[i] }

// Push takes anything, as the library wants it, and keeps what is an index.
func (h *indices) Push(x any) {
	if at, ok := x.(api.At); ok {
		*h = append(*h, at)
	}
}

// Pop takes the last one, where the library has laid the greatest.
func (h *indices) Pop() any {
	last := len(*h) - 1
	at := (*h)[last]
	*h = (*h)[:last]
	return at
}
