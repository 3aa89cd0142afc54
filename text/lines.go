package text

import (
	"strconv"
	"strings"
)

// reader goes through a text line by line.
type reader struct {
	rest string
	line int // the number of the line that was asked for last, from 1 on
}

// numbers reads the next line: mark, then just so many numbers.
func (r *reader) numbers(mark string, count int) ([]int, bool) {
	r.line++
	line, rest, ended := strings.Cut(r.rest, "\n")
	line, marked := strings.CutPrefix(line, mark)
	words := strings.Split(line, " ")
	if !ended || !marked || len(words) != count {
		return nil, false
	}
	r.rest = rest
	return numbersOf(words)
}

// end tells whether nothing is left.
func (r *reader) end() bool {
	r.line++
	return r.rest == ""
}

func numbersOf(words []string) ([]int, bool) {
	numbers := make([]int, len(words))
	for k, w := range words {
		n, err := strconv.Atoi(w)
		// Atoi takes signs and noughts ahead, which may not stand here. What
		// is too great for it is greater than any number that may.
		if err != nil || n < 0 || strconv.Itoa(n) != w {
			return nil, false
		}
		numbers[k] = n
	}
	return numbers, true
}
