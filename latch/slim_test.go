package latch_test

import (
	"math/rand/v2"
	"slices"
	"testing"

	"latch/api"
	"latch/latch"
)

func TestSlimOfExamples(t *testing.T) {
	gates := func(signals ...int) []api.Gate {
		var list []api.Gate
		for pair := range slices.Chunk(signals, 2) {
			list = append(list, api.Gate{Left: pair[0], Right: pair[1]})
		}
		return list
	}
	for name, x := range map[string]struct{ was, want api.Circuit }{
		"the document's": {
			api.Circuit{Inputs: 1, Gates: gates(2, 2, 4, 3), Outputs: []int{7}},
			api.Circuit{Inputs: 1, Outputs: []int{1}}},
		"nothing": {},
		"nothing but inputs and latches": {
			api.Circuit{Inputs: 4, Latches: []api.Latch{{Next: 1, Init: 1}, {Next: 13}}},
			api.Circuit{Inputs: 4, Latches: []api.Latch{{Next: 1, Init: 1}, {Next: 13}}}},
		"the first 0": {
			api.Circuit{Inputs: 1, Gates: gates(0, 2, 3, 0, 0, 0, 1, 0), Outputs: []int{4, 6, 9, 10}},
			api.Circuit{Inputs: 1, Outputs: []int{0, 0, 1, 0}}},
		"the first 1": {
			api.Circuit{Inputs: 1, Gates: gates(1, 2, 3, 1, 1, 1), Outputs: []int{4, 6, 7, 8}},
			api.Circuit{Inputs: 1, Outputs: []int{2, 3, 2, 1}}},
		"both the same": {
			api.Circuit{Inputs: 1, Gates: gates(2, 2, 3, 3), Outputs: []int{4, 5, 6, 7}},
			api.Circuit{Inputs: 1, Outputs: []int{2, 3, 3, 2}}},
		"opposite": {
			api.Circuit{Inputs: 1, Gates: gates(2, 3, 3, 2), Outputs: []int{4, 7}},
			api.Circuit{Inputs: 1, Outputs: []int{0, 1}}},
		"neighbours, but not opposite": {
			api.Circuit{Inputs: 2, Gates: gates(3, 4), Outputs: []int{6}},
			api.Circuit{Inputs: 2, Gates: gates(3, 4), Outputs: []int{6}}},
		"those of a gate that was kept": {
			api.Circuit{Inputs: 2, Gates: gates(4, 2, 2, 4, 4, 2, 5, 2, 2, 5), Outputs: []int{6, 9, 10, 15}},
			api.Circuit{Inputs: 2, Gates: gates(2, 4, 2, 5), Outputs: []int{6, 7, 6, 9}}},
		"the same only when put anew": {
			api.Circuit{Inputs: 2, Gates: gates(1, 2, 6, 4, 4, 2, 8, 10), Outputs: []int{13}},
			api.Circuit{Inputs: 2, Gates: gates(2, 4), Outputs: []int{7}}},
		"the lesser only when put anew": {
			api.Circuit{Inputs: 2, Gates: gates(3, 3, 4, 6), Outputs: []int{8}},
			api.Circuit{Inputs: 2, Gates: gates(3, 4), Outputs: []int{6}}},
		"used by one that does not stay": {
			api.Circuit{Inputs: 2, Gates: gates(2, 4, 6, 3, 3, 5), Outputs: []int{10}},
			api.Circuit{Inputs: 2, Gates: gates(3, 5), Outputs: []int{6}}},
		"used by the opposite of a Next": {
			api.Circuit{Inputs: 1, Latches: []api.Latch{{Next: 9}}, Gates: gates(2, 5, 3, 7)},
			api.Circuit{Inputs: 1, Latches: []api.Latch{{Next: 9}}, Gates: gates(2, 5, 3, 7)}},
		"not seen to be the same": {
			api.Circuit{Inputs: 2, Gates: gates(2, 4, 2, 6), Outputs: []int{6, 8}},
			api.Circuit{Inputs: 2, Gates: gates(2, 4, 2, 6), Outputs: []int{6, 8}}},
	} {
		if got, e := latch.Slim(x.was); !equal(got, x.want) || e != api.OK {
			t.Errorf("P5, %s: Slim(%+v) = %+v, %d, want %+v", name, x.was, got, e, x.want)
		}
	}
}

// foldByWords goes through the gates by the words of the document: the
// signal that each gate's is put as, and the gates that are kept, both by the
// gates' signals in the circuit that is handed in.
func foldByWords(c api.Circuit) (put map[int]int, kept map[int]api.Gate) {
	put, kept = map[int]int{}, map[int]api.Gate{}
	for k, g := range c.Gates {
		own := 2 * (c.Inputs + len(c.Latches) + 1 + k)
		first, second := putAnew(put, g.Left), putAnew(put, g.Right)
		if first > second {
			first, second = second, first
		}
		pair := api.Gate{Left: first, Right: second}
		put[own] = own
		if first == 0 || second-first == 1 && second%2 == 1 {
			put[own] = 0
		} else if first == 1 || first == second {
			put[own] = second
		} else if signal, found := signalOf(kept, pair); found {
			put[own] = signal
		} else {
			kept[own] = pair
		}
	}
	return put, kept
}

func putAnew(put map[int]int, signal int) int {
	anew, gate := put[signal/2*2]
	switch {
	case !gate:
		return signal
	case signal%2 == 0:
		return anew
	case anew%2 == 0:
		return anew + 1
	default:
		return anew - 1
	}
}

func signalOf(kept map[int]api.Gate, pair api.Gate) (int, bool) {
	for signal, g := range kept {
		if g == pair {
			return signal, true
		}
	}
	return 0, false
}

// slimByWords takes the gates that stay by going from each output and each
// Next to what it is made of, and then numbers them.
func slimByWords(c api.Circuit) api.Circuit {
	put, kept := foldByWords(c)
	var stay []int
	var take func(signal int)
	take = func(signal int) {
		own := signal / 2 * 2
		if g, gate := kept[own]; gate && !slices.Contains(stay, own) {
			stay = append(stay, own)
			take(g.Left)
			take(g.Right)
		}
	}
	for _, l := range c.Latches {
		take(putAnew(put, l.Next))
	}
	for _, s := range c.Outputs {
		take(putAnew(put, s))
	}
	slices.Sort(stay)
	number := map[int]int{}
	for k, own := range stay {
		number[own] = 2 * (c.Inputs + len(c.Latches) + 1 + k)
	}
	want := api.Circuit{Inputs: c.Inputs}
	for _, l := range c.Latches {
		want.Latches = append(want.Latches, api.Latch{Next: putAnew(number, putAnew(put, l.Next)), Init: l.Init})
	}
	for _, s := range c.Outputs {
		want.Outputs = append(want.Outputs, putAnew(number, putAnew(put, s)))
	}
	for _, own := range stay {
		g := kept[own]
		want.Gates = append(want.Gates, api.Gate{Left: putAnew(number, g.Left), Right: putAnew(number, g.Right)})
	}
	return want
}

// repeating makes a right circuit whose gates often have the signals of
// gates ahead of them, which randomCircuit's seldom have.
func repeating(r *rand.Rand) api.Circuit {
	c := randomCircuit(r, api.MaxGates)
	for k := range c.Gates {
		if k > 0 && r.IntN(3) == 0 {
			g := c.Gates[r.IntN(k)]
			c.Gates[k] = api.Gate{Left: g.Right, Right: g.Left}
		}
	}
	return c
}

func TestSlimOfManyCircuits(t *testing.T) {
	r := rand.New(rand.NewPCG(11, 12))
	for range 5000 {
		c := repeating(r)
		slim, e := latch.Slim(c)
		if want := slimByWords(c); !equal(slim, want) || e != api.OK {
			t.Fatalf("P5: Slim(%+v) = %+v, %d, want %+v", c, slim, e, want)
		}
		if again, e := latch.Slim(slim); !equal(again, slim) || e != api.OK {
			t.Fatalf("P5: Slim(%+v), slim already, = %+v, %d", slim, again, e)
		}
		in := randomInputs(r, c)
		was, _ := latch.Run(c, in)
		if is, e := latch.Run(slim, in); !slices.Equal(is, was) || e != api.OK {
			t.Fatalf("P5: Slim(%+v) does not do the same: %v, %v", c, was, is)
		}
	}
}

// tower makes the greatest circuit of which no gate can go: each has the one
// ahead of it and an input or a latch.
func tower() api.Circuit {
	c := greatest()
	ahead := api.MaxInputs + api.MaxLatches
	for k := range c.Gates {
		c.Gates[k] = api.Gate{Left: 2 + k%(2*ahead), Right: 2 * (ahead + k)}
	}
	c.Gates[0] = api.Gate{Left: 2, Right: 4}
	return c
}

func TestSlimAtTheLimits(t *testing.T) {
	if slim, e := latch.Slim(tower()); !equal(slim, tower()) || e != api.OK {
		t.Errorf("P5: Slim of a circuit that is slim already: %+v, %d", slim, e)
	}
	// Each gate of this one is the opposite of the variable ahead of it.
	slim, e := latch.Slim(greatest())
	last := 2 * (api.MaxInputs + api.MaxLatches)
	want := greatest()
	want.Gates = nil
	for k := range want.Latches {
		want.Latches[k].Next = last + 1
	}
	for k := range want.Outputs {
		want.Outputs[k] = last + 1
	}
	if !equal(slim, want) || e != api.OK {
		t.Errorf("P5: Slim of the greatest circuit: %+v, %d, want %+v", slim, e, want)
	}
}

func TestSlimOfWrongCircuits(t *testing.T) {
	for _, c := range wrongCircuits() {
		if slim, e := latch.Slim(c); !equal(slim, api.Circuit{}) || e != api.ErrCircuit {
			t.Errorf("P5: Slim of a wrong circuit with %d inputs: %+v, %d", c.Inputs, slim, e)
		}
	}
}

func TestSlimLeavesWhatIsHandedIn(t *testing.T) {
	r := rand.New(rand.NewPCG(13, 14))
	for k := range 300 {
		c := repeating(r)
		if k%3 == 0 {
			c = slimByWords(c)
		}
		handed := roomyCircuit(c)
		slim, e := latch.Slim(handed)
		plain, f := latch.Slim(c)
		if !equal(slim, plain) || e != f {
			t.Fatalf("P2: Slim hangs on the spare room: %+v and %+v", slim, plain)
		}
		scribbleCircuit(slim)
		untouchedCircuit(t, handed, c)
		if want := slimByWords(c); !equal(plain, want) {
			t.Fatal("P2: two answers share room")
		}
	}
}

func scribbleCircuit(c api.Circuit) {
	scribble(c.Latches, markLatch)
	scribble(c.Gates, markGate)
	scribble(c.Outputs, markNumber)
}
