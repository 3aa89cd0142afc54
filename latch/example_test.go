package latch_test

import (
	"fmt"

	"latch/latch"
)

// The README shows these calls.
func Example() {
	c, line, errno := latch.Read("aag 2 1 1 1 0\n2\n4 2 0\n4\n")
	fmt.Println(line, errno)
	text, errno := latch.Write(c)
	fmt.Printf("%q %d\n", text, errno)
	out, errno := latch.Run(c, []int{1, 0, 1})
	fmt.Println(out, errno)
	likely, errno := latch.Chances(c, 2)
	fmt.Println(likely, errno)
	small, errno := latch.Slim(c)
	fmt.Println(small, errno)
	answer, errno := latch.Compare(c, small)
	fmt.Printf("%+v %d\n", answer, errno)
	other, _, errno := latch.Read("aag 2 1 1 1 0\n2\n4 2 1\n4\n")
	fmt.Println(errno)
	answer, errno = latch.Compare(c, other)
	fmt.Printf("%+v %d\n", answer, errno)
	// Output:
	// 0 0
	// "aag 2 1 1 1 0\n2\n4 2 0\n4\n" 0
	// [0 1 0] 0
	// [0.5] 0
	// {1 [{2 0}] [] [4]} 0
	// {Same:true Reached:2 Trace:[] Output:0} 0
	// 0
	// {Same:false Reached:0 Trace:[0] Output:0} 0
}
