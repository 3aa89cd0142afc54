package latch_test

import (
	"math"
	"math/rand/v2"
	"slices"
	"testing"

	"latch/api"
	"latch/latch"
)

// allOnes: its first output is 1 as long as all inputs have been 1 in each
// step, the second is the opposite.
func allOnes() api.Circuit {
	return api.Circuit{
		Inputs:  4,
		Latches: []api.Latch{{Next: 18, Init: 1}},
		Gates:   []api.Gate{{Left: 2, Right: 4}, {Left: 6, Right: 8}, {Left: 12, Right: 14}, {Left: 10, Right: 16}},
		Outputs: []int{18, 19},
	}
}

func TestChancesOfExamples(t *testing.T) {
	counter := api.Circuit{
		Latches: []api.Latch{{Next: 3, Init: 0}, {Next: 2, Init: 1}},
		Outputs: []int{2, 4},
	}
	// Both outputs come from one input: what one is, the other hangs on.
	bound := api.Circuit{Inputs: 2, Gates: []api.Gate{{Left: 2, Right: 4}, {Left: 6, Right: 3}, {Left: 7, Right: 2}}, Outputs: []int{6, 8, 10}}
	for _, x := range []struct {
		c     api.Circuit
		steps int
		want  []float64
	}{
		{delay(), 1, []float64{0}},
		{delay(), 2, []float64{0.5}},
		{delay(), api.MaxSteps, []float64{0.5}},
		{api.Circuit{}, 1, nil},
		{api.Circuit{Inputs: 4}, api.MaxSteps, nil},
		{api.Circuit{Outputs: []int{0, 1}}, api.MaxSteps, []float64{0, 1}},
		{api.Circuit{Inputs: 4, Outputs: []int{2, 5, 0, 1}}, 1, []float64{0.5, 0.5, 0, 1}},
		{counter, 1, []float64{0, 1}},
		{counter, 2, []float64{1, 0}},
		{counter, 3, []float64{0, 1}},
		{bound, 3, []float64{0.25, 0, 0.25}},
		{allOnes(), 1, []float64{0.0625, 0.9375}},
		{allOnes(), api.MaxSteps, []float64{1.0 / (1 << 40), 1 - 1.0/(1<<40)}},
	} {
		if got, e := latch.Chances(x.c, x.steps); !slices.Equal(got, x.want) || e != api.OK {
			t.Errorf("P6: Chances(%+v, %d) = %v, %d, want %v", x.c, x.steps, got, e, x.want)
		}
	}
}

// chancesByWords runs the circuit with all inputs that there are.
func chancesByWords(c api.Circuit, steps int) []float64 {
	counts := make([]int, len(c.Outputs))
	in := make([]int, steps)
	all := 1 << (c.Inputs * steps)
	for n := range all {
		for k := range in {
			in[k] = n >> (k * c.Inputs) & (1<<c.Inputs - 1)
		}
		out := runByWords(c, in)
		for k := range counts {
			counts[k] += out[steps-1] >> k & 1
		}
	}
	likely := make([]float64, len(counts))
	for k, n := range counts {
		likely[k] = float64(n) / float64(all)
	}
	return likely
}

func TestChancesOfManyCircuits(t *testing.T) {
	r := rand.New(rand.NewPCG(15, 16))
	for range 400 {
		c := randomCircuit(r, 8)
		for steps := 1; steps <= api.MaxSteps && c.Inputs*steps <= 10; steps++ {
			got, e := latch.Chances(c, steps)
			if want := chancesByWords(c, steps); !slices.Equal(got, want) || e != api.OK {
				t.Fatalf("P6: Chances(%+v, %d) = %v, %d, want %v", c, steps, got, e, want)
			}
		}
	}
}

// countsByWords counts in whole numbers, of all inputs of so many steps, by
// how many of them each output is 1 in the last.
func countsByWords(c api.Circuit, steps int) []int {
	ways := map[memory]int{startByWords(c): 1}
	var counts []int
	for range steps {
		counts = make([]int, len(c.Outputs))
		then := map[memory]int{}
		for state, count := range ways {
			for in := range 1 << c.Inputs {
				out, next := stepByWords(c, state, in)
				for k := range counts {
					counts[k] += count * (out >> k & 1)
				}
				then[next] += count
			}
		}
		ways = then
	}
	return counts
}

func TestChancesAreExact(t *testing.T) {
	r := rand.New(rand.NewPCG(17, 18))
	for range 60 {
		c := randomCircuit(r, 12)
		c.Inputs, c.Outputs = api.MaxInputs, nil
		signals := 2 * (c.Inputs + len(c.Latches) + len(c.Gates) + 1)
		for range api.MaxOutputs {
			c.Outputs = append(c.Outputs, r.IntN(signals))
		}
		if _, e := latch.Write(c); e != api.OK {
			t.Fatalf("the test's own circuit is wrong: %+v", c)
		}
		for _, steps := range []int{api.MaxSteps - 1, api.MaxSteps} {
			got, e := latch.Chances(c, steps)
			if len(got) != len(c.Outputs) || e != api.OK {
				t.Fatalf("P6: Chances(%+v, %d) = %v, %d", c, steps, got, e)
			}
			for k, n := range countsByWords(c, steps) {
				if want := math.Ldexp(float64(n), -c.Inputs*steps); got[k] != want {
					t.Fatalf("P6: Chances(%+v, %d), output %d: %v, want %v", c, steps, k, got[k], want)
				}
			}
		}
	}
}

func TestChancesOfWrongCircuits(t *testing.T) {
	for _, c := range wrongCircuits() {
		for _, steps := range []int{1, api.MaxSteps, 0, -1, api.MaxSteps + 1, math.MinInt} {
			if got, e := latch.Chances(c, steps); len(got) != 0 || e != api.ErrCircuit {
				t.Errorf("P6: Chances of a wrong circuit with %d inputs, %d: %v, %d", c.Inputs, steps, got, e)
			}
		}
	}
}

func TestChancesOfWrongSteps(t *testing.T) {
	for _, c := range []api.Circuit{{}, delay(), greatest()} {
		for _, steps := range []int{0, -1, api.MaxSteps + 1, math.MinInt, math.MaxInt, 1 << 40} {
			if got, e := latch.Chances(c, steps); len(got) != 0 || e != api.ErrSteps {
				t.Errorf("P6: Chances(%+v, %d) = %v, %d", c, steps, got, e)
			}
		}
		for _, steps := range []int{1, api.MaxSteps} {
			if got, e := latch.Chances(c, steps); len(got) != len(c.Outputs) || e != api.OK {
				t.Errorf("P6: Chances(%+v, %d) = %v, %d", c, steps, got, e)
			}
		}
	}
}

func TestChancesLeavesWhatIsHandedIn(t *testing.T) {
	r := rand.New(rand.NewPCG(19, 20))
	for range 200 {
		c := randomCircuit(r, api.MaxGates)
		steps := 1 + r.IntN(api.MaxSteps)
		handed := roomyCircuit(c)
		got, e := latch.Chances(handed, steps)
		plain, f := latch.Chances(c, steps)
		if !slices.Equal(got, plain) || e != f {
			t.Fatalf("P2: Chances hangs on the spare room: %v and %v", got, plain)
		}
		kept := slices.Clone(plain)
		scribble(got, -1)
		untouchedCircuit(t, handed, c)
		if third, _ := latch.Chances(c, steps); !slices.Equal(plain, kept) || !slices.Equal(third, kept) {
			t.Fatal("P2: two answers share room, or one is kept")
		}
	}
}
