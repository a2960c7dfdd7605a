package nest

import (
	"granger/inner"
	"granger/node"
)

// move is a fresh node as it will stand in a block.
type move struct {
	at    int
	x     *node.Node
	block string
}

// places is the blocks that fresh nodes go to, by their numbers.
type places map[int]int

// pair is those of the numbers, in order.
func pair(refs, blocks []int) places {
	to := places{}
	for i, ref := range refs {
		to[ref] = blocks[i]
	}
	return to
}

// of is the number of a node from then on: a clean one's stays.
func (to places) of(ref int) int {
	if at, is := to[ref]; is {
		return at
	}
	return ref
}

// node is a node with the blocks of its fresh kids instead of their numbers.
func (to places) node(x *node.Node) *node.Node {
	if x.IsLeaf() {
		return x
	}
	in := x.Inner()
	// The kids are numbers from 0 on still, and all else is as it was, so there is no error.
	y, _ := inner.Of(each(in.Kids(), to.of), in.Pivots(), in.Buff().List()...)
	return node.OfInner(y)
}

// each is what call makes of each of a list, in order.
func each[A, B any](list []A, call func(A) B) []B {
	row := make([]B, len(list))
	for i, x := range list {
		row[i] = call(x)
	}
	return row
}
