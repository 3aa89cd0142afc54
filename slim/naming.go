package slim

import "latch/api"

// naming: for each variable the signal that it is put as.
type naming []int

// namesAheadOfGates puts 0, the inputs and the latches as themselves.
func namesAheadOfGates(c api.Circuit) naming {
	var n naming
	for variable := range 1 + c.Inputs + len(c.Latches) {
		n = append(n, 2*variable)
	}
	return n
}

func (n naming) of(signal int) int {
	return n[signal/2] ^ signal&1
}

// ofGate puts a gate's signals anew, the lesser ahead.
func (n naming) ofGate(g api.Gate) api.Gate {
	left, right := n.of(g.Left), n.of(g.Right)
	return api.Gate{Left: min(left, right), Right: max(left, right)}
}

// ofCircuit puts the latches and outputs anew, with these gates.
func (n naming) ofCircuit(c api.Circuit, gates []api.Gate) api.Circuit {
	anew := api.Circuit{Inputs: c.Inputs, Gates: gates}
	for _, l := range c.Latches {
		anew.Latches = append(anew.Latches, api.Latch{Next: n.of(l.Next), Init: l.Init})
	}
	for _, s := range c.Outputs {
		anew.Outputs = append(anew.Outputs, n.of(s))
	}
	return anew
}
