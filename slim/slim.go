// Package slim: a circuit made smaller, that does the same.
package slim

import (
	"slices"

	"latch/api"
	"latch/circuit"
)

// Of tells the slim circuit of a right one.
func Of(c api.Circuit) api.Circuit {
	return withoutUnused(withoutNeedless(c))
}

// withoutNeedless keeps the gates that no other signal stands for.
func withoutNeedless(c api.Circuit) api.Circuit {
	names := namesAheadOfGates(c)
	first := len(names)
	var kept []api.Gate
	signals := map[api.Gate]int{}
	for _, g := range c.Gates {
		g = names.ofGate(g)
		signal, known := needless(g)
		if !known {
			signal, known = signals[g]
		}
		if !known {
			signal = 2 * (first + len(kept))
			signals[g] = signal
			kept = append(kept, g)
		}
		names = append(names, signal)
	}
	return names.ofCircuit(c, kept)
}

// needless tells the signal that a gate, its lesser signal Left, always has
// the value of, if its two signals alone show one.
func needless(g api.Gate) (signal int, ok bool) {
	switch {
	case g.Left == 0:
		return 0, true
	case g.Left == 1:
		return g.Right, true
	case g.Left == g.Right:
		return g.Left, true
	case g.Left == g.Right^1:
		return 0, true
	}
	return 0, false
}

// withoutUnused keeps the gates that an output or a latch hangs on.
func withoutUnused(c api.Circuit) api.Circuit {
	names := namesAheadOfGates(c)
	first := len(names)
	uses := used(c)
	var stay []api.Gate
	for k, g := range c.Gates {
		if !uses[first+k] {
			// Nothing that stays asks for this name: any will do.
			names = append(names, 0)
			continue
		}
		names = append(names, 2*(first+len(stay)))
		stay = append(stay, names.ofGate(g))
	}
	return names.ofCircuit(c, stay)
}

// used tells of each variable whether an output or a latch hangs on it.
func used(c api.Circuit) []bool {
	uses := make([]bool, circuit.Last(c)+1)
	for _, s := range c.Outputs {
		uses[s/2] = true
	}
	for _, l := range c.Latches {
		uses[l.Next/2] = true
	}
	first := len(uses) - len(c.Gates)
	// From the last gate back: a gate is only used by those behind it.
	for k, g := range slices.Backward(c.Gates) {
		if uses[first+k] {
			uses[g.Left/2], uses[g.Right/2] = true, true
		}
	}
	return uses
}
