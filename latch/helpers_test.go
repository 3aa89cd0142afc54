package latch_test

import (
	"math/rand/v2"
	"slices"
	"testing"

	"latch/api"
)

// The marks stand in the spare room of lists that are handed in.
const spare = 3

var (
	markNumber = 4711
	markLatch  = api.Latch{Next: 4711, Init: 4712}
	markGate   = api.Gate{Left: 4711, Right: 4712}
)

// roomy copies a list, with marks in the spare room behind it.
func roomy[T any](list []T, mark T) []T {
	room := slices.Clone(list)
	for range spare {
		room = append(room, mark)
	}
	return room[:len(list):len(room)]
}

func roomyCircuit(c api.Circuit) api.Circuit {
	return api.Circuit{
		Inputs:  c.Inputs,
		Latches: roomy(c.Latches, markLatch),
		Gates:   roomy(c.Gates, markGate),
		Outputs: roomy(c.Outputs, markNumber),
	}
}

// untouched checks that a list made by roomy is as it was made.
func untouched[T comparable](t *testing.T, got, want []T, mark T) {
	t.Helper()
	if !slices.Equal(got[:len(want)+spare], roomy(want, mark)[:len(want)+spare]) {
		t.Errorf("P2: what was handed in is now %v, was %v", got[:len(want)+spare], want)
	}
}

func untouchedCircuit(t *testing.T, got, want api.Circuit) {
	t.Helper()
	if got.Inputs != want.Inputs {
		t.Errorf("P2: the number of inputs is now %d", got.Inputs)
	}
	untouched(t, got.Latches, want.Latches, markLatch)
	untouched(t, got.Gates, want.Gates, markGate)
	untouched(t, got.Outputs, want.Outputs, markNumber)
}

// scribble writes into a list and into its spare room.
func scribble[T any](list []T, mark T) {
	list = list[:cap(list)]
	for k := range list {
		list[k] = mark
	}
}

func equal(a, b api.Circuit) bool {
	return a.Inputs == b.Inputs && slices.Equal(a.Latches, b.Latches) &&
		slices.Equal(a.Gates, b.Gates) && slices.Equal(a.Outputs, b.Outputs)
}

// randomCircuit makes a right circuit with at most so many gates.
func randomCircuit(r *rand.Rand, gates int) api.Circuit {
	return randomLike(r, r.IntN(api.MaxInputs+1), r.IntN(api.MaxOutputs+1), gates)
}

// randomLike makes one with so many inputs and outputs.
func randomLike(r *rand.Rand, inputs, outputs, gates int) api.Circuit {
	c := api.Circuit{Inputs: inputs}
	latches, count := r.IntN(api.MaxLatches+1), r.IntN(gates+1)
	before := inputs + latches
	for k := range count {
		below := 2 * (before + k + 1)
		c.Gates = append(c.Gates, api.Gate{Left: r.IntN(below), Right: r.IntN(below)})
	}
	signals := 2 * (before + count + 1)
	for range latches {
		c.Latches = append(c.Latches, api.Latch{Next: r.IntN(signals), Init: r.IntN(2)})
	}
	for range outputs {
		c.Outputs = append(c.Outputs, r.IntN(signals))
	}
	return c
}

func delay() api.Circuit {
	return api.Circuit{Inputs: 1, Latches: []api.Latch{{Next: 2, Init: 0}}, Outputs: []int{4}}
}

func greatest() api.Circuit {
	c := api.Circuit{
		Inputs:  api.MaxInputs,
		Latches: make([]api.Latch, api.MaxLatches),
		Gates:   make([]api.Gate, api.MaxGates),
		Outputs: make([]int, api.MaxOutputs),
	}
	last := api.MaxInputs + api.MaxLatches + api.MaxGates
	for k := range c.Latches {
		c.Latches[k] = api.Latch{Next: 2*last + 1, Init: 1}
	}
	for k := range c.Gates {
		own := 2 * (api.MaxInputs + api.MaxLatches + 1 + k)
		c.Gates[k] = api.Gate{Left: own - 1, Right: own - 1}
	}
	for k := range c.Outputs {
		c.Outputs[k] = 2*last + 1
	}
	return c
}

// wrongCircuits: each wrong in one way.
func wrongCircuits() []api.Circuit {
	const most = int(^uint(0) >> 1)
	return []api.Circuit{
		{Inputs: -1},
		{Inputs: api.MaxInputs + 1},
		{Inputs: most},
		{Inputs: -most - 1},
		{Latches: make([]api.Latch, api.MaxLatches+1)},
		{Gates: make([]api.Gate, api.MaxGates+1)},
		{Gates: make([]api.Gate, 1<<20)},
		{Outputs: make([]int, api.MaxOutputs+1)},
		{Inputs: 1, Outputs: []int{4}},
		{Inputs: 1, Outputs: []int{0, -1}},
		{Outputs: []int{most}},
		{Outputs: []int{-most - 1}},
		{Latches: []api.Latch{{Next: 4}}},
		{Latches: []api.Latch{{Next: -1}}},
		{Latches: []api.Latch{{Next: most}}},
		{Latches: []api.Latch{{Init: 2}}},
		{Latches: []api.Latch{{Init: -1}}},
		{Gates: []api.Gate{{Left: 2}}},
		{Gates: []api.Gate{{Right: 3}}},
		{Gates: []api.Gate{{Left: 4}, {}}},
		{Gates: []api.Gate{{Right: -1}}},
		{Gates: []api.Gate{{Left: most, Right: -most - 1}}},
	}
}
