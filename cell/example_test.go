package cell_test

import (
	"fmt"

	"countermand/cell"
)

// What README.md shows.
func Example() {
	r := cell.New(3, "a")
	fmt.Println(r.Get(1))
	fmt.Println(r.Set(1, "b", 5), r.Set(3, "c", 6))
	fmt.Println(r.Get(1))
	fmt.Println(r.Version(1), r.Newest(), r.Len())
	for i, s := range r.All() {
		fmt.Println(i, s)
	}
	// Output:
	// a 0
	// true false
	// b 5
	// 5 5 3
	// 0 a
	// 1 b
	// 2 a
}
