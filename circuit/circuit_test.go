package circuit

import (
	"math"
	"testing"

	"latch/api"
)

// greatest: a circuit that has as many of each as one may have.
func greatest() api.Circuit {
	return api.Circuit{
		Inputs:  api.MaxInputs,
		Latches: make([]api.Latch, api.MaxLatches),
		Gates:   make([]api.Gate, api.MaxGates),
		Outputs: make([]int, api.MaxOutputs),
	}
}

func TestSizes(t *testing.T) {
	most := [4]int{api.MaxInputs, api.MaxLatches, api.MaxOutputs, api.MaxGates}
	if !Sizes(0, 0, 0, 0) || !Sizes(most[0], most[1], most[2], most[3]) {
		t.Error("the least or the greatest sizes are refused")
	}
	for k := range most {
		for _, n := range []int{math.MinInt, -1, most[k] + 1, math.MaxInt} {
			sizes := most
			sizes[k] = n
			if Sizes(sizes[0], sizes[1], sizes[2], sizes[3]) {
				t.Errorf("the sizes %v are taken", sizes)
			}
		}
	}
}

func TestRightAtEachSignal(t *testing.T) {
	c := greatest()
	last := api.MaxInputs + api.MaxLatches + api.MaxGates
	places := map[*int]int{}
	for k := range c.Latches {
		places[&c.Latches[k].Next] = 2*last + 1
		places[&c.Latches[k].Init] = 1
	}
	for k := range c.Outputs {
		places[&c.Outputs[k]] = 2*last + 1
	}
	for k := range c.Gates {
		own := 2 * (api.MaxInputs + api.MaxLatches + 1 + k)
		places[&c.Gates[k].Left] = own - 1
		places[&c.Gates[k].Right] = own - 1
	}
	for place, most := range places {
		for n, want := range map[int]bool{
			0: true, 1: true, most: true,
			-1: false, most + 1: false, most + 2: false, math.MinInt: false, math.MaxInt: false,
		} {
			*place = n
			if Right(c) != want {
				t.Errorf("Right with %d where at most %d may stand: %v", n, most, !want)
			}
		}
		*place = 0
	}
}

func TestRightWithTooMany(t *testing.T) {
	for name, change := range map[string]func(*api.Circuit){
		"no inputs to count": func(c *api.Circuit) { c.Inputs = -1 },
		"inputs":             func(c *api.Circuit) { c.Inputs++ },
		"inputs by far":      func(c *api.Circuit) { c.Inputs = math.MaxInt },
		"inputs below all":   func(c *api.Circuit) { c.Inputs = math.MinInt },
		"latches":            func(c *api.Circuit) { c.Latches = append(c.Latches, api.Latch{}) },
		"gates":              func(c *api.Circuit) { c.Gates = append(c.Gates, api.Gate{}) },
		"outputs":            func(c *api.Circuit) { c.Outputs = append(c.Outputs, 0) },
	} {
		c := greatest()
		if !Right(c) {
			t.Fatal("the greatest circuit is refused")
		}
		change(&c)
		if Right(c) {
			t.Errorf("wrong in its %s, but taken", name)
		}
	}
	if !Right(api.Circuit{}) {
		t.Error("the empty circuit is refused")
	}
}

func TestStep(t *testing.T) {
	// The latches swap; the gate is the first input and not the second latch.
	c := api.Circuit{
		Inputs:  2,
		Latches: []api.Latch{{Next: 8, Init: 0}, {Next: 6, Init: 1}},
		Gates:   []api.Gate{{Left: 2, Right: 9}},
		Outputs: []int{10, 4, 7, 1},
	}
	if s := Start(c); s != 2 {
		t.Errorf("Start: %d", s)
	}
	for state := range 4 {
		for in := range 4 {
			gate := in & 1 &^ (state >> 1)
			want := gate | in&2 | (state&1^1)<<2 | 8
			if out, next := Step(c, state, in); out != want || next != state>>1|state&1<<1 {
				t.Errorf("Step(%d, %d): outputs %d, state %d", state, in, out, next)
			}
		}
	}
}

func TestInput(t *testing.T) {
	for inputs := range api.MaxInputs + 1 {
		c := api.Circuit{Inputs: inputs}
		for n, want := range map[int]bool{0: true, 1<<inputs - 1: true, 1 << inputs: false, -1: false, math.MaxInt: false, math.MinInt: false} {
			if Input(c, n) != want {
				t.Errorf("Input of %d inputs, %d: %v", inputs, n, !want)
			}
		}
	}
}
