package latch_test

import (
	"math/rand/v2"
	"slices"
	"testing"

	"latch/api"
	"latch/latch"
)

func sameAnswer(a, b api.Answer) bool {
	return a.Same == b.Same && a.Reached == b.Reached && slices.Equal(a.Trace, b.Trace) && a.Output == b.Output
}

// and lays a gate behind the others, and tells its signal.
func and(c *api.Circuit, left, right int) int {
	c.Gates = append(c.Gates, api.Gate{Left: left, Right: right})
	return 2 * (c.Inputs + len(c.Latches) + len(c.Gates))
}

func or(c *api.Circuit, left, right int) int {
	return and(c, left^1, right^1) ^ 1
}

// latched tells the signal of the k-th latch (from 0 on).
func latched(c *api.Circuit, k int) int {
	return 2 * (c.Inputs + 1 + k)
}

// counted tells a signal that is 1 when the latches are the number n.
func counted(c *api.Circuit, n int) int {
	all := 1
	for k := range c.Latches {
		all = and(c, all, latched(c, k)^(n>>k&1^1))
	}
	return all
}

// counter counts the steps in which its input is 1, up to period and then
// anew; its output tells whether it has come to mark.
func counter(period, mark int) api.Circuit {
	c := api.Circuit{Inputs: 1, Latches: make([]api.Latch, 4)}
	over := and(&c, counted(&c, period-1), 2)
	carry := 2
	for k := range c.Latches {
		both := and(&c, latched(&c, k), carry)
		either := or(&c, latched(&c, k), carry)
		c.Latches[k].Next = and(&c, and(&c, either, both^1), over^1)
		carry = both
	}
	c.Outputs = []int{counted(&c, mark)}
	return c
}

// shift remembers what the signal was in the last four steps; its outputs
// are these.
func shift(signal int, outputs ...int) api.Circuit {
	return api.Circuit{Inputs: 2, Latches: []api.Latch{{Next: signal}, {Next: 6}, {Next: 8}, {Next: 10}}, Outputs: outputs}
}

// constant: a circuit that remembers nothing.
func constant(inputs int, outputs ...int) api.Circuit {
	return api.Circuit{Inputs: inputs, Outputs: outputs}
}

func started(c api.Circuit, inits ...int) api.Circuit {
	c.Latches = slices.Clone(c.Latches)
	for k, n := range inits {
		c.Latches[k].Init = n
	}
	return c
}

// told gives a circuit other outputs.
func told(c api.Circuit, outputs ...int) api.Circuit {
	c.Outputs = outputs
	return c
}

// steps: so many times 1, and then 0.
func steps(ones int) []int {
	return append(slices.Repeat([]int{1}, ones), 0)
}

// either1Then3Or2Then0 tells a 1 behind these two ways alone: the one whose
// first number is less has the greater second.
func either1Then3Or2Then0() api.Circuit {
	c := api.Circuit{Inputs: 2, Latches: make([]api.Latch, 2)}
	c.Latches[0].Next = and(&c, 2, 5)
	c.Latches[1].Next = and(&c, 3, 4)
	first := and(&c, latched(&c, 0), and(&c, 2, 4))
	second := and(&c, latched(&c, 1), and(&c, 3, 5))
	c.Outputs = []int{or(&c, first, second)}
	return c
}

// now3OrAhead0 tells a 1 if the input is 3, or was 0 in the step ahead.
func now3OrAhead0() api.Circuit {
	c := api.Circuit{Inputs: 2, Latches: make([]api.Latch, 1)}
	c.Latches[0].Next = and(&c, 3, 5)
	c.Outputs = []int{or(&c, and(&c, 2, 4), latched(&c, 0))}
	return c
}

func TestCompareOfExamples(t *testing.T) {
	toggle := api.Circuit{Latches: []api.Latch{{Next: 3}}, Outputs: []int{2}}
	once := api.Circuit{Latches: []api.Latch{{Next: 5}, {Next: 1}}, Outputs: []int{2}}
	neither := api.Circuit{Inputs: 2, Gates: []api.Gate{{Left: 3, Right: 5}}, Outputs: []int{6}}
	eitherNot := api.Circuit{Inputs: 2, Gates: []api.Gate{{Left: 5, Right: 5}, {Left: 6, Right: 3}, {Left: 9, Right: 9}}, Outputs: []int{11}}
	for name, x := range map[string]struct {
		a, b api.Circuit
		want api.Answer
	}{
		"the document's first":       {delay(), started(delay(), 1), api.Answer{Trace: []int{0}}},
		"the document's second":      {delay(), delay(), api.Answer{Same: true, Reached: 2}},
		"nothing":                    {api.Circuit{}, api.Circuit{}, api.Answer{Same: true, Reached: 1}},
		"nothing but inputs":         {constant(4), constant(4), api.Answer{Same: true, Reached: 1}},
		"no inputs":                  {toggle, toggle, api.Answer{Same: true, Reached: 2}},
		"no inputs, four steps":      {toggle, once, api.Answer{Trace: []int{0, 0, 0, 0}}},
		"no inputs, no latches":      {constant(0, 0, 1), constant(0, 0, 0), api.Answer{Trace: []int{0}, Output: 1}},
		"no latches":                 {neither, eitherNot, api.Answer{Same: true, Reached: 1}},
		"the least input":            {neither, constant(2, 0), api.Answer{Trace: []int{0}}},
		"latches in one alone":       {delay(), constant(1, 0), api.Answer{Trace: []int{1, 0}}},
		"no outputs":                 {told(delay()), told(started(delay(), 1)), api.Answer{Same: true, Reached: 3}},
		"no outputs, one state":      {told(delay()), constant(1), api.Answer{Same: true, Reached: 2}},
		"the greatest input":         {allOnes(), constant(4, 0, 1), api.Answer{Trace: []int{15}}},
		"several outputs at once":    {constant(2, 0, 2, 4, 2), constant(2, 0, 0, 0, 0), api.Answer{Trace: []int{1}, Output: 1}},
		"a less output by a greater": {constant(2, 4, 0, 2, 2), constant(2, 0, 0, 0, 0), api.Answer{Trace: []int{1}, Output: 2}},
		"the last output":            {constant(4, 0, 0, 0, 8), constant(4, 0, 0, 0, 0), api.Answer{Trace: []int{8}, Output: 3}},
		"outputs that change places": {constant(2, 2, 4), constant(2, 4, 2), api.Answer{Trace: []int{1}}},
		"the least first number":     {either1Then3Or2Then0(), constant(2, 0), api.Answer{Trace: []int{1, 3}}},
		"few steps ahead of least":   {now3OrAhead0(), constant(2, 0), api.Answer{Trace: []int{3}}},
		"the least of five steps":    {shift(2, 12), shift(4, 12), api.Answer{Trace: []int{1, 0, 0, 0, 0}}},
		"all pairs of states":        {shift(2), shift(4), api.Answer{Same: true, Reached: 256}},
		"all pairs, from the last":   {started(shift(2, 1), 1, 1, 1, 1), started(shift(4, 1), 1, 1, 1, 1), api.Answer{Same: true, Reached: 256}},
		"the diagonal":               {shift(2, 6, 8, 10, 12), shift(2, 6, 8, 10, 12), api.Answer{Same: true, Reached: 16}},
		"many ways to few pairs":     {told(counter(16, 0), 0), constant(1, 0), api.Answer{Same: true, Reached: 16}},
		"many steps":                 {counter(16, 15), constant(1, 0), api.Answer{Trace: steps(15)}},
		"more steps than states":     {counter(15, 14), counter(16, 14), api.Answer{Trace: steps(29)}},
		"pairs far from the start":   {told(counter(15, 0), 0), told(counter(16, 0), 0), api.Answer{Same: true, Reached: 240}},
		"states never come to":       {counter(9, 12), constant(1, 0), api.Answer{Same: true, Reached: 9}},
		"as many gates as may be":    {greatest(), greatest(), api.Answer{Same: true, Reached: 2}},
	} {
		for k, pair := range [][2]api.Circuit{{x.a, x.b}, {x.b, x.a}} {
			if got, e := latch.Compare(pair[0], pair[1]); !sameAnswer(got, x.want) || e != api.OK {
				t.Errorf("P7, %s, order %d: %+v, %d, want %+v", name, k, got, e, x.want)
			}
		}
	}
}

// pair: what two circuits remember.
type pair [2]memory

func stepOfPair(a, b api.Circuit, p pair, in int) (differ int, next pair) {
	outA, nextA := stepByWords(a, p[0], in)
	outB, nextB := stepByWords(b, p[1], in)
	return outA ^ outB, pair{nextA, nextB}
}

// reachedByWords adds what is one step further, until that is nothing new.
func reachedByWords(a, b api.Circuit) map[pair]bool {
	all := map[pair]bool{{startByWords(a), startByWords(b)}: true}
	for size := 0; size < len(all); {
		size = len(all)
		var more []pair
		for p := range all {
			for in := range 1 << a.Inputs {
				_, next := stepOfPair(a, b, p, in)
				more = append(more, next)
			}
		}
		for _, p := range more {
			all[p] = true
		}
	}
	return all
}

// fewestByWords goes from the last step to the first: of each pair from which
// the circuits can be told apart, by how many steps at least.
func fewestByWords(a, b api.Circuit, reached map[pair]bool) map[pair]int {
	fewest := map[pair]int{}
	for count, size := 1, -1; size < len(fewest); count++ {
		size = len(fewest)
		var more []pair
		for p := range reached {
			if fewest[p] == 0 && slices.ContainsFunc(inputsOf(a), func(in int) bool { return leads(a, b, p, in, count, fewest) }) {
				more = append(more, p)
			}
		}
		for _, p := range more {
			fewest[p] = count
		}
	}
	return fewest
}

func inputsOf(c api.Circuit) []int {
	list := make([]int, 1<<c.Inputs)
	for in := range list {
		list[in] = in
	}
	return list
}

// leads tells whether this input begins a way of so many steps.
func leads(a, b api.Circuit, p pair, in, count int, fewest map[pair]int) bool {
	differ, next := stepOfPair(a, b, p, in)
	if count == 1 {
		return differ != 0
	}
	return fewest[next] == count-1
}

func compareByWords(a, b api.Circuit) api.Answer {
	reached := reachedByWords(a, b)
	fewest := fewestByWords(a, b, reached)
	now := pair{startByWords(a), startByWords(b)}
	if fewest[now] == 0 {
		return api.Answer{Same: true, Reached: len(reached)}
	}
	var answer api.Answer
	for count := fewest[now]; count > 0; count-- {
		in := slices.IndexFunc(inputsOf(a), func(in int) bool { return leads(a, b, now, in, count, fewest) })
		answer.Trace = append(answer.Trace, in)
		var differ int
		differ, now = stepOfPair(a, b, now, in)
		if differ != 0 {
			answer.Output = lowest(differ)
		}
	}
	return answer
}

func lowest(bits int) int {
	for k := range api.MaxOutputs {
		if bits>>k&1 == 1 {
			return k
		}
	}
	return -1
}

// changed makes a circuit anew with another signal or start in one place.
func changed(r *rand.Rand, c api.Circuit) api.Circuit {
	c.Latches, c.Gates, c.Outputs = slices.Clone(c.Latches), slices.Clone(c.Gates), slices.Clone(c.Outputs)
	before := c.Inputs + len(c.Latches)
	signals := 2 * (before + len(c.Gates) + 1)
	switch which := r.IntN(4); {
	case which == 0 && len(c.Latches) > 0:
		c.Latches[r.IntN(len(c.Latches))].Init ^= 1
	case which == 1 && len(c.Latches) > 0:
		c.Latches[r.IntN(len(c.Latches))].Next = r.IntN(signals)
	case which == 2 && len(c.Gates) > 0:
		k := r.IntN(len(c.Gates))
		c.Gates[k].Left = r.IntN(2 * (before + k + 1))
	case len(c.Outputs) > 0:
		c.Outputs[r.IntN(len(c.Outputs))] = r.IntN(signals)
	}
	return c
}

// likeEachOther makes two right circuits with as many inputs and outputs:
// often the second comes from the first, and its outputs are latches, so that
// it takes some steps to tell them apart.
func likeEachOther(r *rand.Rand) (a, b api.Circuit) {
	a = randomLike(r, r.IntN(4), r.IntN(4), 9)
	if len(a.Latches) > 0 && r.IntN(3) > 0 {
		for k := range a.Outputs {
			a.Outputs[k] = latched(&a, r.IntN(len(a.Latches))) + r.IntN(2)
		}
	}
	switch r.IntN(4) {
	case 0:
		return a, randomLike(r, a.Inputs, len(a.Outputs), 9)
	case 1:
		return a, slimByWords(a)
	default:
		return a, changed(r, a)
	}
}

func TestCompareOfManyCircuits(t *testing.T) {
	r := rand.New(rand.NewPCG(21, 22))
	same, long := 0, 0
	for range 15000 {
		a, b := likeEachOther(r)
		got, e := latch.Compare(a, b)
		if want := compareByWords(a, b); !sameAnswer(got, want) || e != api.OK {
			t.Fatalf("P7: Compare(%+v, %+v) = %+v, %d, want %+v", a, b, got, e, want)
		}
		if got.Same {
			same++
		}
		if len(got.Trace) > 2 {
			long++
		}
	}
	if same < 200 || long < 200 {
		t.Errorf("the test's circuits are too plain: %d the same, %d told apart by more than two steps", same, long)
	}
}

// inOrder tells all inputs of so many steps, the least first.
func inOrder(inputs, steps int) [][]int {
	all := [][]int{nil}
	for range steps {
		var further [][]int
		for _, in := range all {
			for n := range 1 << inputs {
				further = append(further, append(slices.Clip(in), n))
			}
		}
		all = further
	}
	return all
}

// shortestByWords tries all inputs of at most so many steps in all.
func shortestByWords(a, b api.Circuit, most int) []int {
	for steps := 1; steps <= most; steps++ {
		for _, in := range inOrder(a.Inputs, steps) {
			if runByWords(a, in)[steps-1] != runByWords(b, in)[steps-1] {
				return in
			}
		}
	}
	return nil
}

func TestCompareFindsTheLeastOfAllWays(t *testing.T) {
	r := rand.New(rand.NewPCG(23, 24))
	for range 600 {
		a, b := likeEachOther(r)
		most := 8 / max(a.Inputs, 1)
		got, e := latch.Compare(a, b)
		want := shortestByWords(a, b, most)
		if len(got.Trace) > most {
			got.Trace = nil
		}
		if !slices.Equal(got.Trace, want) || e != api.OK || got.Same && want != nil {
			t.Fatalf("P7: Compare(%+v, %+v) = %+v, %d, want %v", a, b, got, e, want)
		}
	}
}

func TestCompareWithSlim(t *testing.T) {
	r := rand.New(rand.NewPCG(25, 26))
	for range 300 {
		c := repeating(r)
		slim, _ := latch.Slim(c)
		got, e := latch.Compare(c, slim)
		if self, f := latch.Compare(c, c); !got.Same || !sameAnswer(got, self) || e != api.OK || f != api.OK {
			t.Fatalf("P7: Compare of %+v with its slim one: %+v, %d, with itself: %+v, %d", c, got, e, self, f)
		}
	}
}

func TestCompareOfWrongCircuits(t *testing.T) {
	right := []api.Circuit{{}, constant(1, 0), delay(), greatest()}
	for _, c := range wrongCircuits() {
		for _, other := range append(right, wrongCircuits()...) {
			for k, pair := range [][2]api.Circuit{{c, other}, {other, c}} {
				if got, e := latch.Compare(pair[0], pair[1]); !sameAnswer(got, api.Answer{}) || e != api.ErrCircuit {
					t.Errorf("P7: Compare of a wrong circuit with %d inputs, place %d: %+v, %d", c.Inputs, k, got, e)
				}
			}
		}
	}
}

func TestCompareOfOtherShapes(t *testing.T) {
	outputs := []int{0, 0, 0, 0}
	for inputs := range api.MaxInputs + 1 {
		for count := range api.MaxOutputs + 1 {
			a := constant(inputs, outputs[:count]...)
			for others := range api.MaxInputs + 1 {
				for otherCount := range api.MaxOutputs + 1 {
					b := constant(others, outputs[:otherCount]...)
					want, errno := api.Answer{}, api.ErrShape
					if inputs == others && count == otherCount {
						want, errno = api.Answer{Same: true, Reached: 1}, api.OK
					}
					if got, e := latch.Compare(a, b); !sameAnswer(got, want) || e != errno {
						t.Errorf("P7: Compare of %d inputs, %d outputs with %d, %d: %+v, %d", inputs, count, others, otherCount, got, e)
					}
				}
			}
		}
	}
}

func TestCompareLeavesWhatIsHandedIn(t *testing.T) {
	r := rand.New(rand.NewPCG(27, 28))
	for range 300 {
		a, b := likeEachOther(r)
		first, second := roomyCircuit(a), roomyCircuit(b)
		got, e := latch.Compare(first, second)
		plain, f := latch.Compare(a, b)
		if !sameAnswer(got, plain) || e != f {
			t.Fatalf("P2: Compare hangs on the spare room: %+v and %+v", got, plain)
		}
		kept := slices.Clone(plain.Trace)
		scribble(got.Trace, -1)
		untouchedCircuit(t, first, a)
		untouchedCircuit(t, second, b)
		if third, _ := latch.Compare(a, b); !slices.Equal(plain.Trace, kept) || !slices.Equal(third.Trace, kept) {
			t.Fatal("P2: two answers share room, or one is kept")
		}
	}
}
