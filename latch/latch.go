// Package latch: circuits that remember, and whether two do the same: see DOC.md.
package latch

import (
	"latch/api"
	"latch/chances"
	"latch/circuit"
	"latch/compare"
	"latch/slim"
	"latch/text"
)

// Read reads the text of a circuit (P3).
func Read(s string) (api.Circuit, int, api.Errno) { return text.Read(s) }

// Write writes it (P3).
func Write(c api.Circuit) (string, api.Errno) {
	if !circuit.Right(c) {
		return "", api.ErrCircuit
	}
	return text.Write(c), api.OK
}

// Run tells the outputs, step by step (P4).
func Run(c api.Circuit, in []int) ([]int, api.Errno) {
	if !circuit.Right(c) {
		return nil, api.ErrCircuit
	}
	if !rightInputs(c, in) {
		return nil, api.ErrInput
	}
	out := make([]int, len(in))
	state := circuit.Start(c)
	for k, n := range in {
		out[k], state = circuit.Step(c, state, n)
	}
	return out, api.OK
}

func rightInputs(c api.Circuit, in []int) bool {
	if len(in) > api.MaxRun {
		return false
	}
	for _, n := range in {
		if !circuit.Input(c, n) {
			return false
		}
	}
	return true
}

// Slim makes a circuit smaller (P5).
func Slim(c api.Circuit) (api.Circuit, api.Errno) {
	if !circuit.Right(c) {
		return api.Circuit{}, api.ErrCircuit
	}
	return slim.Of(c), api.OK
}

// Chances tells how likely outputs are (P6).
func Chances(c api.Circuit, steps int) ([]float64, api.Errno) {
	if !circuit.Right(c) {
		return nil, api.ErrCircuit
	}
	if steps < 1 || steps > api.MaxSteps {
		return nil, api.ErrSteps
	}
	return chances.Of(c, steps), api.OK
}

// Compare tells whether two circuits do the same (P7).
func Compare(a api.Circuit, b api.Circuit) (api.Answer, api.Errno) {
	if !circuit.Right(a) || !circuit.Right(b) {
		return api.Answer{}, api.ErrCircuit
	}
	if a.Inputs != b.Inputs || len(a.Outputs) != len(b.Outputs) {
		return api.Answer{}, api.ErrShape
	}
	return compare.Of(a, b), api.OK
}
