// Package text: the text of a circuit, written and read.
package text

import (
	"strconv"
	"strings"

	"latch/api"
	"latch/circuit"
)

// mark stands ahead of the numbers of the first line.
const mark = "aag "

// Write writes the text of a circuit, which must be right.
func Write(c api.Circuit) string {
	var b strings.Builder
	b.WriteString(mark)
	writeLine(&b, circuit.Last(c), c.Inputs, len(c.Latches), len(c.Outputs), len(c.Gates))
	signal := 0
	for range c.Inputs {
		signal += 2
		writeLine(&b, signal)
	}
	for _, l := range c.Latches {
		signal += 2
		writeLine(&b, signal, l.Next, l.Init)
	}
	for _, s := range c.Outputs {
		writeLine(&b, s)
	}
	for _, g := range c.Gates {
		signal += 2
		writeLine(&b, signal, g.Left, g.Right)
	}
	return b.String()
}

func writeLine(b *strings.Builder, numbers ...int) {
	for k, n := range numbers {
		if k > 0 {
			b.WriteByte(' ')
		}
		b.WriteString(strconv.Itoa(n))
	}
	b.WriteByte('\n')
}
