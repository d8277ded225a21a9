package cursor_test

import (
	"fmt"

	"countermand/cursor"
)

// What README.md shows.
func Example() {
	c := &cursor.Cursor{}
	fmt.Println(c.Any())
	fmt.Println(c.Step(1), c.Step(1), c.Step(3))
	fmt.Println(c.At(1, 5), c.At(0, 5))
	fmt.Println(c.Read(1), c.Read(3))
	o := c.Copy()
	o.Step(1)
	fmt.Println(c.Read(1), o.Read(1), c.Any())
	// Output:
	// false
	// true true false
	// 7 5
	// 2 0
	// 2 3 true
}
