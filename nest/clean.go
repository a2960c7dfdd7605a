package nest

import "granger/node"

// clean is a node that stands in a block, and is kept.
type clean struct {
	at    int
	x     *node.Node
	turn  int // when it was got, or written, the last time
	place int // where it is in the heap
}

// queue is a heap, whose node that was got, or written, longest ago is told first.
type queue []*clean

func (h queue) Len() int           { return len(h) }
func (h queue) Less(i, j int) bool { return h[i].turn < h[j].turn }
func (h queue) Swap(i, j int) {
	h[i], h[j] = h[j], h[i]
	h[i].place, h[j].place = i, j
}

// Push is called by container/heap alone.
func (h *queue) Push(x any) {
	c := x.(*clean)
	c.place = len(*h)
	*h = append(*h, c)
}

// Pop is called by container/heap alone.
func (h *queue) Pop() any {
	last := len(*h) - 1
	c := (*h)[last]
	// Its room is left behind: what isn't kept any more isn't held there.
	(*h)[last] = nil
	*h = (*h)[:last]
	return c
}
