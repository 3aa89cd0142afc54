package text

import (
	"latch/api"
	"latch/circuit"
)

// Read reads the text of a circuit. With ErrText it tells the number of the
// first line that is not as it must be, or 0 if the text is too long.
func Read(s string) (api.Circuit, int, api.Errno) {
	if len(s) > api.MaxText {
		return api.Circuit{}, 0, api.ErrText
	}
	var c api.Circuit
	signal := 0
	r := reader{rest: s}
	h, ok := r.head()
	if !ok {
		goto wrong
	}
	c.Inputs = h.inputs
	for range h.inputs {
		signal += 2
		if !r.input(signal) {
			goto wrong
		}
	}
	for range h.latches {
		signal += 2
		l, ok := r.latch(signal, h.last)
		if !ok {
			goto wrong
		}
		c.Latches = append(c.Latches, l)
	}
	for range h.outputs {
		o, ok := r.output(h.last)
		if !ok {
			goto wrong
		}
		c.Outputs = append(c.Outputs, o)
	}
	for range h.gates {
		signal += 2
		g, ok := r.gate(signal)
		if !ok {
			goto wrong
		}
		c.Gates = append(c.Gates, g)
	}
	if !r.end() {
		goto wrong
	}
	return c, 0, api.OK
wrong:
	return api.Circuit{}, r.line, api.ErrText
}

// head: the numbers of the first line.
type head struct {
	last, inputs, latches, outputs, gates int
}

func (r *reader) head() (head, bool) {
	n, ok := r.numbers(mark, 5)
	if !ok {
		return head{}, false
	}
	h := head{last: n[0], inputs: n[1], latches: n[2], outputs: n[3], gates: n[4]}
	// The sizes come first: a sum of numbers of any size might wrap round.
	ok = circuit.Sizes(h.inputs, h.latches, h.outputs, h.gates) &&
		h.last == h.inputs+h.latches+h.gates
	return h, ok
}

func (r *reader) input(signal int) bool {
	n, ok := r.numbers("", 1)
	return ok && n[0] == signal
}

func (r *reader) latch(signal, last int) (api.Latch, bool) {
	n, ok := r.numbers("", 3)
	if !ok || n[0] != signal || !circuit.Signal(n[1], last) || !circuit.Init(n[2]) {
		return api.Latch{}, false
	}
	return api.Latch{Next: n[1], Init: n[2]}, true
}

func (r *reader) output(last int) (int, bool) {
	n, ok := r.numbers("", 1)
	if !ok || !circuit.Signal(n[0], last) {
		return 0, false
	}
	return n[0], true
}

func (r *reader) gate(signal int) (api.Gate, bool) {
	n, ok := r.numbers("", 3)
	before := signal/2 - 1
	if !ok || n[0] != signal || !circuit.Signal(n[1], before) || !circuit.Signal(n[2], before) {
		return api.Gate{}, false
	}
	return api.Gate{Left: n[1], Right: n[2]}, true
}
