package latch_test

import (
	"math/rand/v2"
	"strings"
	"testing"

	"latch/api"
	"latch/latch"
)

func TestWriteOfExamples(t *testing.T) {
	for want, c := range map[string]api.Circuit{
		"aag 0 0 0 0 0\n":                     {},
		"aag 0 0 0 1 0\n1\n":                  {Outputs: []int{1}},
		"aag 2 1 1 1 0\n2\n4 2 0\n4\n":        delay(),
		"aag 3 1 0 1 2\n2\n7\n4 2 2\n6 4 3\n": {Inputs: 1, Gates: []api.Gate{{Left: 2, Right: 2}, {Left: 4, Right: 3}}, Outputs: []int{7}},
	} {
		if s, e := latch.Write(c); s != want || e != api.OK {
			t.Errorf("P3: Write(%+v) = %q, %d, want %q", c, s, e, want)
		}
		if got, line, e := latch.Read(want); !equal(got, c) || line != 0 || e != api.OK {
			t.Errorf("P3: Read(%q) = %+v, line %d, %d", want, got, line, e)
		}
	}
}

func TestWriteOfWrongCircuits(t *testing.T) {
	for _, c := range wrongCircuits() {
		if s, e := latch.Write(c); s != "" || e != api.ErrCircuit {
			t.Errorf("P3: Write of a wrong circuit with %d inputs: %q, %d", c.Inputs, s, e)
		}
	}
}

func TestReadGivesBackWhatWriteWrote(t *testing.T) {
	r := rand.New(rand.NewPCG(1, 2))
	circuits := []api.Circuit{greatest()}
	for range 500 {
		circuits = append(circuits, randomCircuit(r, api.MaxGates))
	}
	for _, c := range circuits {
		s, e := latch.Write(c)
		if e != api.OK {
			t.Fatalf("P3: Write(%+v): %d", c, e)
		}
		if got, line, e := latch.Read(s); !equal(got, c) || line != 0 || e != api.OK {
			t.Fatalf("P3: Read(%q) = %+v, line %d, %d", s, got, line, e)
		}
	}
}

func TestReadTellsTheFirstWrongLine(t *testing.T) {
	const good = "aag 4 1 1 2 2\n2\n4 9 1\n8\n0\n6 5 2\n8 7 6\n"
	if _, line, e := latch.Read(good); line != 0 || e != api.OK {
		t.Fatalf("P3: Read(%q): line %d, %d", good, line, e)
	}
	lines := strings.SplitAfter(good, "\n")
	for line, wrong := range map[int][]string{
		1: {"aag 5 1 1 2 2\n", "aag 4 1 1 2 3\n", "aag 8 5 1 2 2\n", "aag 8 1 5 2 2\n", "aag 4 1 1 5 2\n", "aag 33 1 1 2 31\n", "aag 4 1 1 2 2 0\n", "aag 4 1 1 2\n", "aig 4 1 1 2 2\n", "aag4 1 1 2 2\n", "4 1 1 2 2\n", " 4 1 1 2 2\n", "aag 4 1 1 2 18446744073709551618\n", "aag 18446744073709551620 1 1 2 2\n", "\n"},
		2: {"3\n", "4\n", "1\n", "02\n", "+2\n", "2 \n", " 2\n", "2 0\n", "2\r\n", "\n"},
		3: {"5 9 1\n", "6 9 1\n", "4 10 1\n", "4 9 2\n", "4 9 -1\n", "4 9\n", "4  9 1\n", "4\t9 1\n", "4 9 1 0\n", "4 9 01\n"},
		4: {"10\n", "-1\n", "-0\n", "00\n", "8 \n", "x\n", "٣\n", "\n"},
		6: {"7 5 2\n", "8 5 2\n", "6 6 2\n", "6 7 2\n", "6 5 8\n", "6 5\n", "6 5 2 1\n"},
		7: {"8 8 6\n", "8 7 9\n", "6 7 6\n", "8 7 6"},
		8: {"\n", "x", "8 7 6\n", "\x00"},
	} {
		for _, w := range wrong {
			s := strings.Join(lines[:line-1], "") + w + strings.Join(lines[min(line, 7):], "")
			if c, n, e := latch.Read(s); n != line || e != api.ErrText || !equal(c, api.Circuit{}) {
				t.Errorf("P3: Read(%q) = %+v, line %d, %d, want line %d", s, c, n, e, line)
			}
		}
		if line < 8 {
			s := strings.Join(lines[:line-1], "")
			if _, n, e := latch.Read(s); n != line || e != api.ErrText {
				t.Errorf("P3: Read(%q): line %d, %d, want line %d", s, n, e, line)
			}
		}
	}
}

func TestReadOfSeveralWrongLines(t *testing.T) {
	for s, line := range map[string]int{
		"aag 2 2 0 1 0\n2\n5\n9\nx": 3,
		"aag 2 2 0 1 0\n2\n4\n9\nx": 4,
		"aag 2 2 0 1 0\n2\n4\n5\nx": 5,
	} {
		if _, n, e := latch.Read(s); n != line || e != api.ErrText {
			t.Errorf("P3: Read(%q): line %d, %d, want line %d", s, n, e, line)
		}
	}
}

func TestReadAtTheLimitOfBytes(t *testing.T) {
	const good = "aag 0 0 0 1 0\n1\n"
	most := good + strings.Repeat("\n", api.MaxText-len(good))
	if c, line, e := latch.Read(most); line != 3 || e != api.ErrText || !equal(c, api.Circuit{}) {
		t.Errorf("P3: Read of %d bytes: line %d, %d", len(most), line, e)
	}
	for _, s := range []string{most + "\n", "\n" + most, strings.Repeat(good, 1000)} {
		if c, line, e := latch.Read(s); line != 0 || e != api.ErrText || !equal(c, api.Circuit{}) {
			t.Errorf("P3: Read of %d bytes: line %d, %d", len(s), line, e)
		}
	}
	if _, line, e := latch.Read(strings.Repeat("9", api.MaxText)); line != 1 || e != api.ErrText {
		t.Errorf("P3: Read of a long number: line %d, %d", line, e)
	}
}

func TestWriteLeavesWhatIsHandedIn(t *testing.T) {
	r := rand.New(rand.NewPCG(5, 6))
	for range 100 {
		c := randomCircuit(r, api.MaxGates)
		handed := roomyCircuit(c)
		s, e := latch.Write(handed)
		untouchedCircuit(t, handed, c)
		if plain, f := latch.Write(c); s != plain || e != f {
			t.Fatalf("P2: Write hangs on the spare room: %q and %q", s, plain)
		}
	}
}

func TestReadGivesNewMemory(t *testing.T) {
	s, _ := latch.Write(greatest())
	first, _, _ := latch.Read(s)
	second, _, _ := latch.Read(s)
	scribble(first.Latches, markLatch)
	if !equal(api.Circuit{Inputs: first.Inputs, Latches: greatest().Latches, Gates: first.Gates, Outputs: first.Outputs}, greatest()) {
		t.Error("P2: the lists of one answer share room")
	}
	scribble(first.Gates, markGate)
	scribble(first.Outputs, markNumber)
	if !equal(second, greatest()) {
		t.Error("P2: the lists of two answers share room")
	}
	if third, line, e := latch.Read(s); !equal(third, greatest()) || line != 0 || e != api.OK {
		t.Error("P2: what was answered is kept")
	}
}
