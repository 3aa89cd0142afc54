// Package chances: how likely a circuit's outputs are.
package chances

import (
	"latch/api"
	"latch/circuit"
)

// states tells of each state how likely it is. Each number here is a whole
// one divided by 2 to at most MaxInputs times MaxSteps: a float64 holds it,
// and each sum of such, to the bit.
type states [1 << api.MaxLatches]float64

// Of tells of each output of a right circuit how likely it is to be 1 in the
// step of this number (1: the first).
func Of(c api.Circuit, step int) []float64 {
	var now states
	now[circuit.Start(c)] = 1
	for range step - 1 {
		now = behind(c, now)
	}
	return outputs(c, now)
}

// behind tells how likely the states are one step further.
func behind(c api.Circuit, now states) states {
	var then states
	eachStep(c, now, func(_, next int, chance float64) {
		then[next] += chance
	})
	return then
}

func outputs(c api.Circuit, now states) []float64 {
	likely := make([]float64, len(c.Outputs))
	eachStep(c, now, func(out, _ int, chance float64) {
		for k := range likely {
			if out>>k&1 == 1 {
				likely[k] += chance
			}
		}
	})
	return likely
}

// eachStep tells each step that may come from these states: its outputs, the
// state behind it, and how likely it is.
func eachStep(c api.Circuit, now states, tell func(out, next int, chance float64)) {
	inputs := 1 << c.Inputs
	for state, chance := range now {
		if chance == 0 {
			continue
		}
		for in := range inputs {
			out, next := circuit.Step(c, state, in)
			tell(out, next, chance/float64(inputs))
		}
	}
}
