package compare

import "slices"

// A way is what two circuits come to by the same inputs.
type way struct {
	inputs   []int
	inA, inB int // the states behind the last step
	differ   int // bit k: whether output k was not the same in the last step
}

// ways is a heap: the shortest way first, of those the least.
type ways []way

func (w ways) Len() int { return len(w) }

func (w ways) Less(i, j int) bool {
	a, b := w[i].inputs, w[j].inputs
	if len(a) != len(b) {
		return len(a) < len(b)
	}
	return slices.Compare(a, b) < 0
}

func (w ways) Swap(i, j int) { w[i], w[j] = w[j], w[i] }

// Push is for package heap.
func (w *ways) Push(x any) { *w = append(*w, x.(way)) }

// Pop is for package heap.
func (w *ways) Pop() any {
	last := len(*w) - 1
	x := (*w)[last]
	*w = (*w)[:last]
	return x
}

// with makes a new list: several ways go on from one, so none may write into
// the room behind it.
func with(inputs []int, in int) []int {
	return append(slices.Clip(inputs), in)
}
