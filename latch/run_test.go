package latch_test

import (
	"math/rand/v2"
	"slices"
	"testing"

	"latch/api"
	"latch/latch"
)

func TestRunOfExamples(t *testing.T) {
	swap := api.Circuit{Latches: []api.Latch{{Next: 4, Init: 0}, {Next: 2, Init: 1}}, Outputs: []int{2, 4}}
	both := api.Circuit{Inputs: 2, Gates: []api.Gate{{Left: 2, Right: 4}, {Left: 3, Right: 5}}, Outputs: []int{6, 7, 8, 1}}
	for _, x := range []struct {
		c       api.Circuit
		in, out []int
	}{
		{api.Circuit{Outputs: []int{1}}, []int{0, 0, 0}, []int{1, 1, 1}},
		{delay(), []int{1, 0, 1}, []int{0, 1, 0}},
		{swap, []int{0, 0, 0}, []int{2, 1, 2}},
		{both, []int{0, 1, 2, 3}, []int{2 + 4 + 8, 2 + 8, 2 + 8, 1 + 8}},
		{api.Circuit{Inputs: 4}, []int{15, 0}, []int{0, 0}},
		{delay(), nil, nil},
		{delay(), []int{}, nil},
	} {
		if out, e := latch.Run(x.c, x.in); !slices.Equal(out, x.out) || e != api.OK {
			t.Errorf("P4: Run(%+v, %v) = %v, %d, want %v", x.c, x.in, out, e, x.out)
		}
	}
}

// memory: the values of the latches. Those that a circuit has not stay false.
type memory [api.MaxLatches]bool

// isOne tells a signal's value by the words of the document alone, from the
// signal back to the inputs and latches.
func isOne(c api.Circuit, signal int, state memory, in int) bool {
	if signal%2 == 1 {
		return !isOne(c, signal-1, state, in)
	}
	variable := signal / 2
	switch gate := variable - c.Inputs - len(c.Latches) - 1; {
	case variable == 0:
		return false
	case variable <= c.Inputs:
		return in&(1<<(variable-1)) != 0
	case gate < 0:
		return state[variable-c.Inputs-1]
	default:
		return isOne(c, c.Gates[gate].Left, state, in) && isOne(c, c.Gates[gate].Right, state, in)
	}
}

func startByWords(c api.Circuit) memory {
	var state memory
	for k, l := range c.Latches {
		state[k] = l.Init == 1
	}
	return state
}

func stepByWords(c api.Circuit, state memory, in int) (out int, next memory) {
	for k, s := range c.Outputs {
		if isOne(c, s, state, in) {
			out += 1 << k
		}
	}
	for k, l := range c.Latches {
		next[k] = isOne(c, l.Next, state, in)
	}
	return out, next
}

func runByWords(c api.Circuit, in []int) []int {
	state := startByWords(c)
	out := make([]int, len(in))
	for k, n := range in {
		out[k], state = stepByWords(c, state, n)
	}
	return out
}

func randomInputs(r *rand.Rand, c api.Circuit) []int {
	var in []int
	for range r.IntN(api.MaxRun + 1) {
		in = append(in, r.IntN(1<<c.Inputs))
	}
	return in
}

func TestRunOfManyCircuits(t *testing.T) {
	r := rand.New(rand.NewPCG(7, 8))
	for range 1000 {
		c := randomCircuit(r, 9)
		in := randomInputs(r, c)
		if out, e := latch.Run(c, in); !slices.Equal(out, runByWords(c, in)) || e != api.OK {
			t.Fatalf("P4: Run(%+v, %v) = %v, %d, want %v", c, in, out, e, runByWords(c, in))
		}
	}
}

func TestRunOfWrongCircuits(t *testing.T) {
	for _, c := range wrongCircuits() {
		for _, in := range [][]int{nil, {0}, {-1}, make([]int, api.MaxRun+1)} {
			if out, e := latch.Run(c, in); len(out) != 0 || e != api.ErrCircuit {
				t.Errorf("P4: Run of a wrong circuit with %d inputs: %v, %d", c.Inputs, out, e)
			}
		}
	}
}

func TestRunOfWrongInputs(t *testing.T) {
	const most = int(^uint(0) >> 1)
	for inputs := range api.MaxInputs + 1 {
		c := api.Circuit{Inputs: inputs, Outputs: []int{1}}
		for _, in := range [][]int{{-1}, {-most - 1}, {1 << inputs}, {most}, {0, 0, 1 << inputs}, {0, 0, -1}, {1 << 40}} {
			if out, e := latch.Run(c, in); len(out) != 0 || e != api.ErrInput {
				t.Errorf("P4: Run with %d inputs, %v: %v, %d", inputs, in, out, e)
			}
		}
		if out, e := latch.Run(c, []int{1<<inputs - 1, 0}); !slices.Equal(out, []int{1, 1}) || e != api.OK {
			t.Errorf("P4: Run with %d inputs, all 1: %v, %d", inputs, out, e)
		}
	}
}

func TestRunAtTheLimitOfSteps(t *testing.T) {
	in := make([]int, api.MaxRun)
	in[api.MaxRun-2] = 1
	want := make([]int, api.MaxRun)
	want[api.MaxRun-1] = 1
	if out, e := latch.Run(delay(), in); !slices.Equal(out, want) || e != api.OK {
		t.Errorf("P4: Run of %d steps: %v, %d", len(in), out, e)
	}
	for _, steps := range []int{api.MaxRun + 1, 1 << 20} {
		if out, e := latch.Run(delay(), make([]int, steps)); len(out) != 0 || e != api.ErrInput {
			t.Errorf("P4: Run of %d steps: %d outputs, %d", steps, len(out), e)
		}
	}
	if out, e := latch.Run(greatest(), make([]int, api.MaxRun)); len(out) != api.MaxRun || e != api.OK {
		t.Errorf("P4: Run of the greatest circuit: %v, %d", out, e)
	}
}

func TestRunLeavesWhatIsHandedIn(t *testing.T) {
	r := rand.New(rand.NewPCG(9, 10))
	for range 200 {
		c := randomCircuit(r, api.MaxGates)
		in := randomInputs(r, c)
		handed, numbers := roomyCircuit(c), roomy(in, markNumber)
		out, e := latch.Run(handed, numbers)
		if plain, f := latch.Run(c, in); !slices.Equal(out, plain) || e != f {
			t.Fatalf("P2: Run hangs on the spare room: %v and %v", out, plain)
		}
		scribble(out, -1)
		untouchedCircuit(t, handed, c)
		untouched(t, numbers, in, markNumber)
	}
}

func TestRunGivesNewMemory(t *testing.T) {
	in := []int{1, 0, 1, 1}
	want := []int{0, 1, 0, 1}
	first, _ := latch.Run(delay(), in)
	second, _ := latch.Run(delay(), in)
	scribble(first, -1)
	if !slices.Equal(second, want) {
		t.Error("P2: two answers share room")
	}
	if third, e := latch.Run(delay(), in); !slices.Equal(third, want) || e != api.OK {
		t.Error("P2: what was answered is kept")
	}
}
