package compare

import (
	"container/heap"
	"math/rand/v2"
	"slices"
	"testing"
)

func TestWaysShortestFirstOfThoseTheLeast(t *testing.T) {
	want := [][]int{nil, {0}, {3}, {15}, {0, 0}, {0, 15}, {1, 0}, {1, 3}, {2, 0}, {15, 15}, {0, 0, 0}, {0, 1, 0}, {1, 0, 0}, {0, 0, 0, 0}}
	r := rand.New(rand.NewPCG(1, 2))
	for range 200 {
		var todo ways
		for _, k := range r.Perm(len(want)) {
			heap.Push(&todo, way{inputs: want[k], inA: k})
		}
		for k, inputs := range want {
			if w := heap.Pop(&todo).(way); !slices.Equal(w.inputs, inputs) || w.inA != k {
				t.Fatalf("way number %d: %v, want %v", k, w.inputs, inputs)
			}
		}
		if todo.Len() != 0 {
			t.Fatal("a way is left")
		}
	}
}

func TestWithSharesNoRoom(t *testing.T) {
	inputs := make([]int, 2, 9)
	first, second := with(inputs, 1), with(inputs, 2)
	if !slices.Equal(first, []int{0, 0, 1}) || !slices.Equal(second, []int{0, 0, 2}) || inputs[:3][2] != 0 {
		t.Errorf("%v and %v, from %v", first, second, inputs[:3])
	}
	if only := with(nil, 3); !slices.Equal(only, []int{3}) {
		t.Errorf("the first step: %v", only)
	}
}
