// Package compare: whether two circuits do the same, and how they are told
// apart if not.
package compare

import (
	"container/heap"
	"math/bits"

	"latch/api"
	"latch/circuit"
)

// pairs tells of each state of one circuit and each of another whether it is
// known that both are in them at once.
type pairs [1 << api.MaxLatches][1 << api.MaxLatches]bool

// Of compares two right circuits with as many inputs and as many outputs.
func Of(a, b api.Circuit) api.Answer {
	var known pairs
	reached := 0
	todo := &ways{{inA: circuit.Start(a), inB: circuit.Start(b)}}
	for todo.Len() > 0 {
		w := heap.Pop(todo).(way)
		if w.differ != 0 {
			return api.Answer{Trace: w.inputs, Output: bits.TrailingZeros(uint(w.differ))}
		}
		// A pair that is known was come to by a better way: what this one
		// leads to, that one leads to, and better.
		if known[w.inA][w.inB] {
			continue
		}
		known[w.inA][w.inB] = true
		reached++
		for in := range 1 << a.Inputs {
			heap.Push(todo, further(a, b, w, in))
		}
	}
	return api.Answer{Same: true, Reached: reached}
}

// further tells the way that goes one step on.
func further(a, b api.Circuit, w way, in int) way {
	outA, nextA := circuit.Step(a, w.inA, in)
	outB, nextB := circuit.Step(b, w.inB, in)
	return way{inputs: with(w.inputs, in), inA: nextA, inB: nextB, differ: outA ^ outB}
}
