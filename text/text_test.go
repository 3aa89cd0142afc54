package text

import (
	"fmt"
	"math/rand/v2"
	"reflect"
	"slices"
	"strings"
	"testing"

	"latch/api"
)

// sample: a text with lines of every kind, of numbers of one digit and of two.
const sample = "aag 6 2 2 3 2\n2\n4\n6 13 1\n8 0 0\n12\n11\n0\n10 9 2\n12 10 10\n"

func sampleCircuit() api.Circuit {
	return api.Circuit{
		Inputs:  2,
		Latches: []api.Latch{{Next: 13, Init: 1}, {Next: 0, Init: 0}},
		Gates:   []api.Gate{{Left: 9, Right: 2}, {Left: 10, Right: 10}},
		Outputs: []int{12, 11, 0},
	}
}

func TestWrite(t *testing.T) {
	if got := Write(sampleCircuit()); got != sample {
		t.Errorf("Write: %q, want %q", got, sample)
	}
}

func TestRead(t *testing.T) {
	c, line, e := Read(sample)
	if !reflect.DeepEqual(c, sampleCircuit()) || line != 0 || e != api.OK {
		t.Errorf("Read: %+v, line %d, %d", c, line, e)
	}
}

// allowed lists the lines that may stand somewhere by writing out every one:
// no line is taken apart, so that Read is held against another way.
type allowed struct {
	heads map[string][5]int
}

func newAllowed() allowed {
	heads := map[string][5]int{}
	for i := range api.MaxInputs + 1 {
		for l := range api.MaxLatches + 1 {
			for o := range api.MaxOutputs + 1 {
				for g := range api.MaxGates + 1 {
					h := [5]int{i + l + g, i, l, o, g}
					heads[fmt.Sprintf("aag %d %d %d %d %d\n", h[0], h[1], h[2], h[3], h[4])] = h
				}
			}
		}
	}
	return allowed{heads}
}

// behind lists, for each line behind the first, what may stand there.
func (a allowed) behind(h [5]int) [][]string {
	var lines [][]string
	last, signal := h[0], 0
	for range h[1] {
		signal += 2
		lines = append(lines, []string{fmt.Sprintln(signal)})
	}
	for range h[2] {
		signal += 2
		lines = append(lines, triples(signal, 2*last+2, 2))
	}
	for range h[3] {
		var outputs []string
		for s := range 2*last + 2 {
			outputs = append(outputs, fmt.Sprintln(s))
		}
		lines = append(lines, outputs)
	}
	for range h[4] {
		signal += 2
		lines = append(lines, triples(signal, signal, signal))
	}
	return lines
}

func triples(signal, below, belowToo int) []string {
	var lines []string
	for i := range below {
		for j := range belowToo {
			lines = append(lines, fmt.Sprintln(signal, i, j))
		}
	}
	return lines
}

// wrongLine tells the first line of s that may not stand there, 0 if none.
func (a allowed) wrongLine(s string) int {
	if len(s) > api.MaxText {
		return 0
	}
	lines := strings.SplitAfter(s, "\n")
	h, ok := a.heads[lines[0]]
	if !ok {
		return 1
	}
	number := 1
	for _, may := range a.behind(h) {
		number++
		if !slices.Contains(may, lines[number-1]) {
			return number
		}
	}
	if lines[number] != "" {
		return number + 1
	}
	return 0
}

// check holds Read of s against what may stand in each line.
func (a allowed) check(t *testing.T, s string) {
	t.Helper()
	want := a.wrongLine(s)
	c, line, e := Read(s)
	right := want == 0 && len(s) <= api.MaxText
	if right && (line != 0 || e != api.OK) {
		t.Fatalf("Read(%q): line %d, %d, want a circuit", s, line, e)
	}
	if right && Write(c) != s {
		t.Fatalf("Read(%q) is the circuit of %q", s, Write(c))
	}
	if !right && (line != want || e != api.ErrText || !reflect.DeepEqual(c, api.Circuit{})) {
		t.Fatalf("Read(%q): %+v, line %d, %d, want line %d", s, c, line, e, want)
	}
}

// variants tells the texts that one change makes of s: cut off, or a byte left
// out, put in or put instead.
func variants(s string) []string {
	list := []string{s, s + s}
	for k := range len(s) + 1 {
		list = append(list, s[:k], s[k:])
		if k < len(s) {
			list = append(list, s[:k]+s[k+1:])
		}
		for _, b := range []byte("0123456789 \n\r\t\x00\xffa-+._x") {
			list = append(list, s[:k]+string([]byte{b})+s[k:])
			if k < len(s) {
				list = append(list, s[:k]+string([]byte{b})+s[k+1:])
			}
		}
	}
	return list
}

func TestReadTellsTheLine(t *testing.T) {
	a := newAllowed()
	for _, s := range []string{
		sample,
		"aag 0 0 0 0 0\n",
		"aag 0 0 0 1 0\n1\n",
		"aag 2 1 1 1 0\n2\n4 2 0\n4\n",
		"aag 5 4 0 4 1\n2\n4\n6\n8\n10\n11\n0\n1\n10 9 8\n",
		"aag 4 0 4 0 0\n2 9 0\n4 0 1\n6 8 1\n8 2 0\n",
	} {
		for _, v := range variants(s) {
			a.check(t, v)
		}
	}
}

// A line that stands elsewhere, twice or not at all.
func TestReadLinesMoved(t *testing.T) {
	a := newAllowed()
	lines := strings.SplitAfter(sample, "\n")
	for i := range lines {
		a.check(t, strings.Join(slices.Delete(slices.Clone(lines), i, i+1), ""))
		for j := range lines {
			a.check(t, strings.Join(slices.Insert(slices.Clone(lines), j, lines[i]), ""))
			swapped := slices.Clone(lines)
			swapped[i], swapped[j] = swapped[j], swapped[i]
			a.check(t, strings.Join(swapped, ""))
		}
	}
}

func TestReadAnything(t *testing.T) {
	a := newAllowed()
	r := rand.New(rand.NewPCG(3, 4))
	pieces := []string{"aag", "aag 1 1 0 0 0\n", " ", "\n", "0", "1", "2", "4", "-", "18446744073709551616", "é", "\x00"}
	for range 20000 {
		var b strings.Builder
		for range r.IntN(12) {
			b.WriteString(pieces[r.IntN(len(pieces))])
		}
		a.check(t, b.String())
	}
}
