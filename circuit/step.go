package circuit

import "latch/api"

// Input tells whether n has no bits but those of the circuit's inputs.
func Input(c api.Circuit, n int) bool {
	return within(n, 1<<c.Inputs-1)
}

// Start tells the state ahead of the first step: bit k is the k-th latch's
// (from 0 on). Here and in Step the circuit must be right.
func Start(c api.Circuit) int {
	state := 0
	for k, l := range c.Latches {
		state |= l.Init << k
	}
	return state
}

// Step tells the outputs of a step, and the state behind it.
func Step(c api.Circuit, state, in int) (out, next int) {
	values := valuesIn(c, state, in)
	for k, s := range c.Outputs {
		out |= valueOf(s, values) << k
	}
	for k, l := range c.Latches {
		next |= valueOf(l.Next, values) << k
	}
	return out, next
}

// valuesIn tells what each variable has in a step, by its number.
func valuesIn(c api.Circuit, state, in int) []int {
	values := make([]int, 1, Last(c)+1)
	for k := range c.Inputs {
		values = append(values, in>>k&1)
	}
	for k := range c.Latches {
		values = append(values, state>>k&1)
	}
	for _, g := range c.Gates {
		values = append(values, valueOf(g.Left, values)&valueOf(g.Right, values))
	}
	return values
}

func valueOf(signal int, values []int) int {
	return values[signal/2] ^ signal&1
}
