// Package circuit: which circuits are right, and what one does in a step.
package circuit

import "latch/api"

// Last tells the number of the last variable.
func Last(c api.Circuit) int {
	return c.Inputs + len(c.Latches) + len(c.Gates)
}

// Sizes tells whether a right circuit may have so many of each.
func Sizes(inputs, latches, outputs, gates int) bool {
	return within(inputs, api.MaxInputs) && within(latches, api.MaxLatches) &&
		within(outputs, api.MaxOutputs) && within(gates, api.MaxGates)
}

// Signal tells whether s is a signal of one of the variables 0 to last.
func Signal(s, last int) bool {
	return within(s, 2*last+1)
}

// Init tells whether a latch may start with this value.
func Init(value int) bool {
	return within(value, 1)
}

func within(n, most int) bool {
	return n >= 0 && n <= most
}

// Right tells whether the circuit is right.
func Right(c api.Circuit) bool {
	// The sizes come first: only with them are the numbers of the variables
	// small enough to be reckoned with.
	return Sizes(c.Inputs, len(c.Latches), len(c.Outputs), len(c.Gates)) &&
		rightLatches(c) && rightGates(c) && rightOutputs(c)
}

func rightLatches(c api.Circuit) bool {
	for _, l := range c.Latches {
		if !Signal(l.Next, Last(c)) || !Init(l.Init) {
			return false
		}
	}
	return true
}

func rightGates(c api.Circuit) bool {
	before := c.Inputs + len(c.Latches)
	for _, g := range c.Gates {
		if !Signal(g.Left, before) || !Signal(g.Right, before) {
			return false
		}
		before++
	}
	return true
}

func rightOutputs(c api.Circuit) bool {
	for _, s := range c.Outputs {
		if !Signal(s, Last(c)) {
			return false
		}
	}
	return true
}
